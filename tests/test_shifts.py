"""Point 51: the shift that a region needs."""

import random
import unittest

from bandpress.errors import BadOptions, NotApart, NotOptions
from bandpress.options import Options
from bandpress.packets import pack, picture_blocks
from bandpress.shifts import least_shift
from bandpress.unpacking import picture_of
from tests import codec
from tests.helpers import PressTest, faults
from tests.pictures import MANY_FRAME, MANY_OPTIONS, NOT_OPTIONS, WRONG_PICTURES, cases, some_picture, zeros

ONE = (0, 0, (((5,),),))
REGIONS = ((0, 0, 100, 100), (0, 0, 1, 1), (4, 4, 9, 9), (99, 99, 100, 100), (0, 0, 100, 6), (5, 0, 6, 100))


class LeastShiftTest(PressTest):
    def test_written_out(self):
        outside = Options(levels=0, region=(5, 5, 6, 6))
        for sample, shift in ((0, 0), (1, 1), (-1, 1), (2, 2), (3, 2), (4, 3), (7, 3), (-8, 4), (255, 8), (-255, 8)):
            self.same(least_shift((0, 0, (((sample,),),)), outside), shift)
            self.same(least_shift((0, 0, (((sample,),),)), Options(levels=0, region=(0, 0, 1, 1))), 0)

    def test_one_lower_is_not_apart(self):
        for number, (picture, _, options, o) in enumerate(cases(2)):
            for region in REGIONS[number % 2::2]:
                for shift in (0, number % 17):
                    some = options.changed(region=region, shift=shift)
                    found = least_shift(picture, some)
                    self.same(found, codec.greatest_outside(picture, {**o, "region": region}).bit_length())
                    picture_blocks(picture, some.changed(shift=found))
                    if found > 0:
                        self.fails(NotApart, picture_blocks, picture, some.changed(shift=found - 1))
                        self.fails(NotApart, picture_blocks, picture, some.changed(shift=0))

    def test_all_in_the_mask(self):
        for picture, _, options, _ in cases(9):
            self.same(least_shift(picture, options.changed(region=(0, 0, 100, 100))), 0)

    def test_zeros(self):
        self.same(least_shift(zeros((3, 4, 5, 6, 3)), Options(region=(50, 50, 60, 60))), 0)

    def test_samples_of_the_region_are_exact(self):
        source = random.Random(51)
        for picture, frame, options, _ in cases():
            top, left = frame[0] + source.randrange(frame[2]), frame[1] + source.randrange(frame[3])
            bottom, right = source.randint(top + 1, 100), source.randint(left + 1, 100)
            some = options.changed(region=(top, left, bottom, right))
            shift = least_shift(picture, some)
            some = some.changed(shift=min(16, shift + source.choice((0, 0, 1, 3))))
            for cut in {3 * some.shift, max(0, 3 * some.shift - 2)}:
                some = some.changed(cuts=(min(94, cut + 40), cut))
                shown = picture_of(frame, some, pack(picture, some))
                for rows, others in zip(shown[2], picture[2]):
                    for row, other in list(zip(rows, others))[top - frame[0]:bottom - frame[0]]:
                        self.same(row[left - frame[1]:right - frame[1]], other[left - frame[1]:right - frame[1]])

    def test_too_many_packets_do_no_harm(self):
        picture = some_picture(MANY_FRAME, 2)
        self.same(least_shift(picture, MANY_OPTIONS.changed(region=(0, 0, 1, 1))), 8)

    def test_wrong_arguments(self):
        self.check_order(least_shift, [ONE, Options(region=(0, 0, 1, 1))],
                         [WRONG_PICTURES, [*faults(NotOptions, NOT_OPTIONS),
                                           *faults(BadOptions, (Options(), Options(shift=16)), name="region")]])


if __name__ == "__main__":
    unittest.main()
