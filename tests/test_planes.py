"""Point 8: planes, split and merged."""

import random
import unittest

from bandpress.errors import BadBands, BadPlane, NotKernel
from bandpress.kernels import Kernel, long_kernel, short_kernel
from bandpress.planes import merge, split
from tests import reference
from tests.helpers import NOT_KERNELS, NOT_PLANES, PressTest, faults
from tests.samples import KERNELS, PLACES, some_rows

SIZES = ((0, 0), (1, 0), (3, 0), (16, 0), (1, 1), (1, 2), (2, 1), (1, 16), (16, 1), (2, 2), (2, 3), (3, 2), (5, 4),
         (7, 7), (16, 16))


def planes():
    """Planes at many places and of many sizes, each with the steps of a kernel."""
    for number, steps in enumerate(KERNELS):
        for place, (top, left) in enumerate(PLACES):
            for height, width in SIZES:
                if height * width < 100 or (number + place) % 4 == 0:
                    yield steps, (top, left, some_rows(height, width, number + place))


def zeros(top, left, height, width):
    """A plane of zeros."""
    return top, left, ((0,) * width,) * height


def zero_bands(top, left, height, width):
    """The bands of a plane of zeros, worked out with the reference."""
    return reference.split((((0,), 0),), *zeros(top, left, height, width))


class SplitTest(PressTest):
    def test_written_out(self):
        kernel = short_kernel()
        plane = (0, 0, ((1, 2, 3), (4, 7, 8), (9, 9, 9)))
        # The rows become (1, 0, 3), (5, 1, 9), (9, 0, 9), their columns (1, 0, 9), (1, 1, 1), (5, 3, 11).
        self.same(split(kernel, plane),
                  ((0, 0, ((1, 5), (9, 11))), (0, 0, ((1,), (1,))), (0, 0, ((0, 3),)), (0, 0, ((1,),))))

    def test_rows_come_first(self):
        kernel = Kernel((((1,), 2),))
        # The rows become (1, 1), (1, 1), their columns (1, 2), (1, 2); columns first would make hh 1.
        self.same(split(kernel, (0, 0, ((1, 0), (1, 0)))),
                  ((0, 0, ((1,),)), (0, 0, ((1,),)), (0, 0, ((2,),)), (0, 0, ((2,),))))

    def test_hl_is_high_along_the_rows(self):
        kernel = Kernel((((-1,), 1),))
        self.same(split(kernel, (0, 0, ((0, 8), (0, 8)))),
                  ((0, 0, ((0,),)), (0, 0, ((8,),)), (0, 0, ((0,),)), (0, 0, ((0,),))))
        self.same(split(kernel, (0, 0, ((0, 0), (8, 8)))),
                  ((0, 0, ((0,),)), (0, 0, ((0,),)), (0, 0, ((8,),)), (0, 0, ((0,),))))

    def test_planes_without_rows(self):
        kernel = long_kernel()
        self.same(split(kernel, (0, 0, ())), ((0, 0, ()), (0, 0, ()), (0, 0, ()), (0, 0, ())))
        self.same(split(kernel, (3, -5, ())), ((2, -2, ()), (2, -3, ()), (1, -2, ()), (1, -3, ())))

    def test_rows_without_samples(self):
        self.same(split(short_kernel(), (1, 7, ((), (), ()))),
                  ((1, 4, ((),)), (1, 3, ((),)), (0, 4, ((), ())), (0, 3, ((), ()))))

    def test_one_row_or_one_column(self):
        kernel = short_kernel()
        self.same(split(kernel, (4, 0, ((4, 9, 6, 3),))),
                  ((2, 0, ((6, 6),)), (2, 0, ((4, -3),)), (2, 0, ()), (2, 0, ())))
        self.same(split(kernel, (5, 0, ((4, 9, 6, 3),))),
                  ((3, 0, ()), (3, 0, ()), (2, 0, ((6, 6),)), (2, 0, ((4, -3),))))
        self.same(split(kernel, (0, 4, ((4,), (9,), (6,), (3,)))),
                  ((0, 2, ((6,), (6,))), (0, 2, ((), ())), (0, 2, ((4,), (-3,))), (0, 2, ((), ()))))
        self.same(split(kernel, (0, 5, ((4,), (9,), (6,), (3,)))),
                  ((0, 3, ((), ())), (0, 2, ((6,), (6,))), (0, 3, ((), ())), (0, 2, ((4,), (-3,)))))
        self.same(split(kernel, (5, 5, ((7,),))), ((3, 3, ()), (3, 2, ()), (2, 3, ((),)), (2, 2, ((7,),))))

    def test_against_the_reference(self):
        for steps, plane in planes():
            self.same(split(Kernel(steps), plane), reference.split(steps, *plane))

    def test_wrong_arguments(self):
        self.check_order(split, [short_kernel(), (0, 0, ((1, 2), (3, 4)))],
                         [faults(NotKernel, NOT_KERNELS), faults(BadPlane, NOT_PLANES)])


class MergeTest(PressTest):
    def test_written_out(self):
        bands = ((0, 0, ((1, 5), (9, 11))), (0, 0, ((1,), (1,))), (0, 0, ((0, 3),)), (0, 0, ((1,),)))
        self.same(merge(short_kernel(), *bands), (0, 0, ((1, 2, 3), (4, 7, 8), (9, 9, 9))))

    def test_undoes_split(self):
        for steps, plane in planes():
            self.same(merge(Kernel(steps), *split(Kernel(steps), plane)), plane)

    def test_is_undone_by_split(self):
        for number, steps in enumerate(KERNELS):
            for top, left in PLACES:
                for height, width in SIZES[:13]:
                    rows = some_rows(height, width, number)
                    bands = reference.split((((0,), 0),), top, left, rows)
                    plane = merge(Kernel(steps), *bands)
                    self.same(split(Kernel(steps), plane), bands)

    def test_columns_come_first(self):
        kernel = Kernel((((1,), 2),))
        bands = ((0, 0, ((1,),)), (0, 0, ((1,),)), (0, 0, ((2,),)), (0, 0, ((2,),)))
        self.same(merge(kernel, *bands), (0, 0, ((1, 0), (1, 0))))

    def test_bands_without_rows(self):
        kernel = short_kernel()
        self.same(merge(kernel, (2, -2, ()), (2, -3, ()), (1, -2, ()), (1, -3, ())), (3, -5, ()))
        self.same(merge(kernel, (2, 0, ((6, 6),)), (2, 0, ((4, -3),)), (2, 0, ()), (2, 0, ())), (4, 0, ((4, 9, 6, 3),)))
        self.same(merge(kernel, (3, 0, ()), (3, 0, ()), (2, 0, ((6, 6),)), (2, 0, ((4, -3),))), (5, 0, ((4, 9, 6, 3),)))
        self.same(merge(kernel, (1, 4, ((),)), (1, 3, ((),)), (0, 4, ((), ())), (0, 3, ((), ()))), (1, 7, ((), (), ())))

    def test_only_bands_of_a_plane(self):
        kernel = long_kernel()
        possible = {}
        for top in range(-4, 8):
            for left in range(-4, 8):
                for height in range(7):
                    for width in range(7 if height else 1):
                        possible[zero_bands(top, left, height, width)] = zeros(top, left, height, width)
        source = random.Random(5)
        for bands in source.sample(sorted(possible), 900):
            changed = list(bands)
            for _ in range(source.choice((1, 1, 2))):
                band = source.randrange(4)
                changed[band] = neighbor(changed[band], source)
            if tuple(changed) in possible:
                self.same(merge(kernel, *changed), possible[tuple(changed)])
            else:
                self.fails(BadBands, merge, kernel, *changed)

    def test_tops_lefts_heights_and_widths_must_agree(self):
        kernel = short_kernel()
        right = [(0, 0, ((1,),))] * 4
        self.same(merge(kernel, *right)[:2], (0, 0))
        for number in range(4):
            for band in ((1, 0, ((1,),)), (-1, 0, ((1,),)), (0, 1, ((1,),)), (0, -1, ((1,),)), (0, 0, ()),
                         (0, 0, ((),)), (0, 0, ((1, 2),)), (0, 0, ((1,), (2,)))):
                self.fails(BadBands, merge, kernel, *right[:number], band, *right[number + 1:])
        self.fails(BadBands, merge, kernel, *[(0, 0, ((1,),)), (1, 0, ((1,),))] * 2)
        self.fails(BadBands, merge, kernel, *[(0, 1, ((1,),))] * 2, *[(0, 0, ((1,),))] * 2)
        self.fails(BadBands, merge, kernel, *[(0, 0, ((1,),))] * 2, *[(1, 0, ((1,),))] * 2)
        self.fails(BadBands, merge, kernel, *[(0, 0, ((1,),)), (0, 1, ((1,),))] * 2)

    def test_four_bands_without_rows(self):
        kernel = short_kernel()
        for left in (0, 1):
            for high_left in (-1, 0, 1):
                bands = [(0, left, ()), (0, high_left, ()), (0, left, ()), (0, high_left, ())]
                if left - high_left in (0, 1):
                    self.same(merge(kernel, *bands), (0, left + high_left, ()))
                else:
                    self.fails(BadBands, merge, kernel, *bands)
        self.fails(BadBands, merge, kernel, (0, 0, ()), (0, 0, ()), (1, 0, ()), (1, 0, ()))
        self.fails(BadBands, merge, kernel, (2, 0, ()), (2, 0, ()), (0, 0, ()), (0, 0, ()))
        self.fails(BadBands, merge, kernel, (0, 0, ()), (0, 0, ()), (0, 1, ()), (0, 0, ()))
        self.fails(BadBands, merge, kernel, (0, 0, ()), (1, 0, ()), (0, 0, ()), (0, 0, ()))

    def test_at_most_16_rows_and_columns(self):
        kernel = short_kernel()
        for height, width in ((16, 16), (16, 0), (16, 1), (1, 16), (15, 16)):
            for place in (0, 1):
                bands = zero_bands(place, place, height, width)
                self.same(merge(kernel, *bands), zeros(place, place, height, width))
        for height, width in ((17, 1), (17, 0), (1, 17), (17, 17), (16, 17), (32, 2), (2, 32)):
            for place in (0, 1):
                self.fails(BadBands, merge, kernel, *zero_bands(place, place, height, width))

    def test_places_within_the_limits(self):
        kernel = short_kernel()
        for height, width in ((0, 0), (2, 0), (3, 3)):
            for top, left in ((-1000, 0), (900, 0), (0, -1000), (0, 900)):
                self.same(merge(kernel, *zero_bands(top, left, height, width)), zeros(top, left, height, width))
            for top, left in ((-1001, 0), (901, 0), (0, -1001), (0, 901), (1800, 0), (0, 1800)):
                self.fails(BadBands, merge, kernel, *zero_bands(top, left, height, width))

    def test_wrong_arguments(self):
        wrong_bands = faults(BadBands, NOT_PLANES)
        self.check_order(merge, [short_kernel(), *[(0, 0, ((1,),))] * 4],
                         [faults(NotKernel, NOT_KERNELS), *[wrong_bands] * 4])


def neighbor(plane, source):
    """A plane of zeros that differs by little from another one."""
    top, left, rows = plane
    height, width = len(rows), len(rows[0]) if rows else 0
    change = source.randrange(4)
    if change == 0:
        return zeros(top + source.choice((-1, 1)), left, height, width)
    if change == 1:
        return zeros(top, left + source.choice((-1, 1)), height, width)
    if change == 2:
        return zeros(top, left, max(0, height + source.choice((-1, 1))), width)
    return zeros(top, left, height, max(0, width + source.choice((-1, 1))))


if __name__ == "__main__":
    unittest.main()
