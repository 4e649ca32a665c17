"""Point 26: middles of ranges, and distortions after passes."""

import unittest
from fractions import Fraction

from bandpress.blocks import pass_count
from bandpress.distortions import middles, pass_distortions
from bandpress.errors import BadBlock, BadRanges
from bandpress.passes import known
from tests.helpers import NOT_BLOCK_ROWS, NOT_BLOCKS, NOT_COEFFICIENTS, PressTest, faults
from tests.planes_coding import BLOCKS

MOST = 2 ** 32 - 1


def middle(least, most):
    """The middle of a range."""
    if least <= 0 <= most:
        return 0
    return int(Fraction(least + most, 2))


class MiddlesTest(PressTest):
    def test_written_out(self):
        self.same(middles((((4, 7), (-3, 3), (-3, -2)),)), ((5, 0, -2),))
        self.same(middles((((0, 9), (-9, 0)), ((0, 0), (5, 5)))), ((0, 0), (0, 5)))
        self.same(middles((((1, 2),), ((-2, -1),))), ((1,), (-1,)))
        self.same(middles((((-4, -1), (-5, -1), (1, 4), (-7, -7)),)), ((-2, -3, 2, -7),))
        self.same(middles((((1, MOST), (-MOST, -1), (MOST, MOST), (-MOST, MOST)),)), ((2 ** 31, -2 ** 31, MOST, 0),))

    def test_all_small_ranges(self):
        for least in range(-9, 10):
            for most in range(least, 10):
                self.same(middles((((least, most), (1, 1)),)), ((middle(least, most), 1),))

    def test_shapes(self):
        for height in range(1, 9):
            for width in range(1, 9):
                self.same(middles((((2, 5),) * width,) * height), ((3,) * width,) * height)

    def test_wrong_arguments(self):
        not_ranges = (None, True, 5, "", "12", (), (1,), (1, 2, 3), [1, 2], {}, {1: 1, 2: 2}, ((1, 2),), (2, 1),
                      (0, -1), *((value, 2 ** 33) for value in NOT_COEFFICIENTS),
                      *((-2 ** 33, value) for value in NOT_COEFFICIENTS), *((1, value) for value in NOT_COEFFICIENTS),
                      *((value, 1) for value in NOT_COEFFICIENTS))
        not_rows = (*NOT_BLOCK_ROWS, ((1, 2), (3, 4)), (((1, 2),) * 9,), (((1, 2),),) * 9, (((1, 2),), ((1, 2),) * 2),
                    (((1, 2),), [(1, 2)]), [((1, 2),)], (((1, 2),), ()))
        self.check_order(middles, [(((1, 2),) * 8,) * 8],
                         [faults(BadRanges, (*not_rows, *(((value,),) for value in not_ranges),
                                             *((((1, 2), (1, 2)), ((1, 2), value)) for value in not_ranges)))])


class PassDistortionsTest(PressTest):
    def test_written_out(self):
        self.same(pass_distortions(((5, 0, -3),)), (34, 9, 9, 10, 2, 2, 0, 0))
        self.same(pass_distortions(((0, 0),)), (0,))
        self.same(pass_distortions(((1,),)), (1, 0))
        self.same(pass_distortions(((-MOST,),))[0], MOST ** 2)

    def test_against_known(self):
        for block in BLOCKS:
            found = pass_distortions(block)
            self.same(len(found), pass_count(block) + 1)
            for passes in range(0, len(found), 1 + len(found) // 12):
                total = 0
                for row, ranges in zip(block, known(block, passes)):
                    total += sum((value - middle(*limits)) ** 2 for value, limits in zip(row, ranges))
                self.same(found[passes], total)
            self.same(found[-1], 0)

    def test_wrong_arguments(self):
        self.check_order(pass_distortions, [((1, 2), (3, 4))], [faults(BadBlock, NOT_BLOCKS)])


if __name__ == "__main__":
    unittest.main()
