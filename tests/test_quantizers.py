"""Point 14, first paragraph: numbers of ratios, their cells, and what is restored from them."""

import unittest
from fractions import Fraction

from bandpress.errors import BadNumber, BadShare, BadStep, NotRatio
from bandpress.quantizers import cell_of, dropped, quantize, restored, worst_restored
from tests.helpers import NOT_INTEGERS, NOT_RATIOS, PressTest, faults
from tests.reference import as_ratio

SIZES = ((1, 1), (2, 1), (1, 3), (5, 2), (7, 12), (10 ** 30, 1), (1, 10 ** 30))
SHARES = ((0, 1), (1, 1), (1, 2), (1, 3), (2, 3), (49, 100), (51, 100))
NUMBERS = (-10 ** 9, -1000, -7, -2, -1, 0, 1, 2, 3, 8, 10 ** 9)
WRONG_NUMBERS = faults(BadNumber, (*NOT_INTEGERS, -10 ** 9 - 1, 10 ** 9 + 1))
WRONG_STEPS = faults(BadStep, (*NOT_RATIOS, (0, 1), (-1, 2), (-3, 1)))
WRONG_SHARES = faults(BadShare, (*NOT_RATIOS, (-1, 2), (3, 2), (2, 1), (-1, 10 ** 9), (10 ** 9 + 1, 10 ** 9)))


class QuantizeTest(PressTest):
    def test_written_out(self):
        self.same(quantize((7, 2), (1, 1)), 3)
        self.same(quantize((-7, 2), (1, 1)), -3)
        self.same(quantize((3, 1), (1, 1)), 3)
        self.same(quantize((-3, 1), (1, 1)), -3)
        self.same(quantize((1, 2), (1, 3)), 1)
        self.same(quantize((2, 3), (1, 3)), 2)
        self.same(quantize((0, 1), (5, 2)), 0)
        self.same(quantize((-1, 2), (1, 1)), 0)
        self.same(quantize((-99, 100), (1, 1)), 0)

    def test_greatest_number_of_steps(self):
        for size in SIZES:
            for number in (0, 1, 2, 17, 10 ** 9, 10 ** 40):
                edge = number * Fraction(*size)
                little = Fraction(*size) / 1000
                for sign in (1, -1):
                    self.same(quantize(as_ratio(sign * edge), size), sign * number)
                    self.same(quantize(as_ratio(sign * (edge + little)), size), sign * number)
                    if number:
                        self.same(quantize(as_ratio(sign * (edge - little)), size), sign * (number - 1))

    def test_wrong_arguments(self):
        self.check_order(quantize, [(7, 2), (1, 3)], [faults(NotRatio, NOT_RATIOS), WRONG_STEPS])


class CellTest(PressTest):
    def test_written_out(self):
        self.same(cell_of(3, (1, 2)), ((3, 2), (2, 1), True, False))
        self.same(cell_of(-3, (1, 2)), ((-2, 1), (-3, 2), False, True))
        self.same(cell_of(0, (1, 2)), ((-1, 2), (1, 2), False, False))
        self.same(cell_of(1, (5, 1)), ((5, 1), (10, 1), True, False))
        self.same(cell_of(-1, (5, 1)), ((-10, 1), (-5, 1), False, True))

    def test_holds_the_ratios_with_the_number(self):
        for size in SIZES:
            for number in NUMBERS:
                least, most, has_least, has_most = cell_of(number, size)
                little = Fraction(*size) / 10 ** 6
                low, high = Fraction(*least), Fraction(*most)
                self.same(as_ratio(low), least)
                self.same(as_ratio(high), most)
                self.assertIs(has_least, quantize(least, size) == number)
                self.assertIs(has_most, quantize(most, size) == number)
                for inside in (low + little, high - little, (low + high) / 2):
                    self.assertEqual(quantize(as_ratio(inside), size), number)
                for outside in (low - little, high + little):
                    self.assertNotEqual(quantize(as_ratio(outside), size), number)

    def test_wrong_arguments(self):
        self.check_order(cell_of, [3, (1, 2)], [WRONG_NUMBERS, WRONG_STEPS])


class DroppedTest(PressTest):
    def test_written_out(self):
        self.same(dropped(13, 2), 3)
        self.same(dropped(-13, 2), -3)
        self.same(dropped(-1, 1), 0)
        self.same(dropped(-7, 1), -3)
        self.same(dropped(13, 0), 13)
        self.same(dropped(-13, 0), -13)
        self.same(dropped(0, 30), 0)
        self.same(dropped(10 ** 9, 29), 1)
        self.same(dropped(-10 ** 9, 29), -1)
        self.same(dropped(10 ** 9, 30), 0)
        self.same(dropped(-10 ** 9, 30), 0)

    def test_is_rounded_toward_zero(self):
        for number in (*NUMBERS, *range(-40, 41)):
            for planes in range(31):
                size = abs(number) // 2 ** planes
                self.same(dropped(number, planes), size if number > 0 else -size)

    def test_wrong_arguments(self):
        self.check_order(dropped, [13, 2], [WRONG_NUMBERS, faults(BadNumber, (*NOT_INTEGERS, -1, 31))])


class RestoredTest(PressTest):
    def test_written_out(self):
        self.same(restored(3, (1, 2), (1, 2)), (7, 4))
        self.same(restored(-3, (1, 2), (1, 2)), (-7, 4))
        self.same(restored(0, (1, 2), (1, 2)), (0, 1))
        self.same(restored(3, (5, 1), (0, 1)), (15, 1))
        self.same(restored(3, (5, 1), (1, 1)), (20, 1))
        self.same(restored(-1, (5, 2), (2, 3)), (-25, 6))

    def test_share_of_a_step_behind_the_number(self):
        for size in SIZES:
            for share in SHARES:
                for number in NUMBERS:
                    distance = (abs(number) + Fraction(*share)) * Fraction(*size)
                    expected = 0 if number == 0 else distance if number > 0 else -distance
                    self.same(restored(number, size, share), as_ratio(expected))

    def test_wrong_arguments(self):
        self.check_order(restored, [3, (1, 2), (1, 2)], [WRONG_NUMBERS, WRONG_STEPS, WRONG_SHARES])


class WorstRestoredTest(PressTest):
    def test_written_out(self):
        self.same(worst_restored(3, (1, 2), (1, 2)), (1, 4))
        self.same(worst_restored(-3, (1, 2), (1, 2)), (1, 4))
        self.same(worst_restored(3, (6, 1), (1, 3)), (4, 1))
        self.same(worst_restored(3, (6, 1), (2, 3)), (4, 1))
        self.same(worst_restored(-1, (5, 1), (0, 1)), (5, 1))
        self.same(worst_restored(1, (5, 1), (1, 1)), (5, 1))
        self.same(worst_restored(0, (5, 3), (1, 2)), (5, 3))

    def test_is_the_least_that_is_never_exceeded(self):
        for size in SIZES:
            for share in SHARES:
                for number in NUMBERS:
                    worst = Fraction(*worst_restored(number, size, share))
                    middle = Fraction(*restored(number, size, share))
                    least, most, _, _ = cell_of(number, size)
                    ends = (Fraction(*least), Fraction(*most))
                    # The errors in the cell come as near as one likes to those at its ends.
                    self.assertEqual(max(abs(end - middle) for end in ends), worst)

    def test_wrong_arguments(self):
        self.check_order(worst_restored, [3, (1, 2), (1, 2)], [WRONG_NUMBERS, WRONG_STEPS, WRONG_SHARES])


if __name__ == "__main__":
    unittest.main()
