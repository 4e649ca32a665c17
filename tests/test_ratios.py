"""Point 2: ratios."""

import unittest
from fractions import Fraction

from bandpress.errors import NotRatio
from bandpress.ratios import ratio
from tests.helpers import NOT_INTEGERS, PressTest, faults


class RatioTest(PressTest):
    def test_in_lowest_terms(self):
        self.same(ratio(6, 4), (3, 2))
        self.same(ratio(1, 3), (1, 3))
        self.same(ratio(-6, 4), (-3, 2))
        self.same(ratio(10 ** 60, 10 ** 58), (100, 1))

    def test_denominator_becomes_positive(self):
        self.same(ratio(6, -4), (-3, 2))
        self.same(ratio(-6, -4), (3, 2))
        self.same(ratio(1, -1), (-1, 1))

    def test_integers_and_zero(self):
        self.same(ratio(7, 1), (7, 1))
        self.same(ratio(0, 5), (0, 1))
        self.same(ratio(0, -5), (0, 1))
        self.same(ratio(0, 1), (0, 1))

    def test_against_fractions(self):
        for numerator in range(-30, 31):
            for denominator in [n for n in range(-30, 31) if n != 0]:
                expected = Fraction(numerator, denominator)
                self.same(ratio(numerator, denominator), (expected.numerator, expected.denominator))

    def test_great_numbers_stay_exact(self):
        prime, other = 2 ** 521 - 1, 2 ** 607 - 1
        self.same(ratio(prime * 12345, other * 54321), (prime * 4115, other * 18107))

    def test_wrong_values(self):
        self.check_order(ratio, [3, 4], [faults(NotRatio, NOT_INTEGERS), faults(NotRatio, (*NOT_INTEGERS, 0))])
        self.fails(NotRatio, ratio, 0, 0)
        self.fails(NotRatio, ratio, (1, 2), 1)
        self.fails(NotRatio, ratio, 1, (1, 2))


if __name__ == "__main__":
    unittest.main()
