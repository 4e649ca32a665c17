"""Point 10: the filters of a kernel, what they make of a signal, and their duals."""

import unittest

from bandpress.errors import BadSignal, NotKernel
from bandpress.filters import duals, filtered, filters
from bandpress.kernels import Kernel, long_kernel, short_kernel
from bandpress.lifting import analyze_exactly
from tests import reference
from tests.helpers import NOT_EXACT_SIGNALS, NOT_KERNELS, PressTest, faults
from tests.samples import KERNELS, STARTS, some_ratios, some_steps

ONE = (1, 1)
MANY = (*KERNELS, *(some_steps(seed) for seed in range(25)))


def pairs(table):
    """The ascending pairs of a dict of Fractions."""
    return tuple((offset, reference.as_ratio(table[offset])) for offset in sorted(table))


class FiltersTest(PressTest):
    def test_short_kernel(self):
        low = ((-2, (-1, 8)), (-1, (1, 4)), (0, (3, 4)), (1, (1, 4)), (2, (-1, 8)))
        high = ((-1, (-1, 2)), (0, (1, 1)), (1, (-1, 2)))
        self.same(filters(short_kernel()), (low, high))

    def test_one_step_leaves_even_positions(self):
        high = ((-3, (5, 4)), (-1, (-3, 4)), (0, (1, 1)), (1, (-3, 4)), (3, (5, 4)))
        self.same(filters(Kernel((((-3, 5), 2),))), (((0, (1, 1)),), high))

    def test_weights_of_zero_are_left_out(self):
        self.same(filters(Kernel((((0,), 3),))), (((0, (1, 1)),), ((0, (1, 1)),)))
        self.same(filters(Kernel((((0, 1), 0),)))[1], ((-3, (1, 1)), (0, (1, 1)), (3, (1, 1))))
        low = ((-2, (-1, 2)), (-1, (1, 2)), (1, (1, 2)), (2, (-1, 2)))
        self.same(filters(Kernel((((-1,), 0), ((1,), 1)))), (low, ((-1, (-1, 1)), (0, (1, 1)), (1, (-1, 1)))))

    def test_against_the_reference(self):
        for steps in MANY:
            expected = pairs(reference.filter_of(steps, 0)), pairs(reference.filter_of(steps, 1))
            self.same(filters(Kernel(steps)), expected)

    def test_wrong_arguments(self):
        self.check_order(filters, [long_kernel()], [faults(NotKernel, NOT_KERNELS)])


class FilteredTest(PressTest):
    def test_written_out(self):
        signal = (0, ((4, 1), (9, 1), (6, 1), (3, 1)))
        self.same(filtered(short_kernel(), signal), ((0, ((6, 1), (25, 4))), (0, ((4, 1), (-3, 1)))))
        self.same(filtered(Kernel((((0,), 0),)), (-3, ((1, 2), (1, 3)))), ((-1, ((1, 3),)), (-2, ((1, 2),))))

    def test_is_exact_analysis(self):
        for number, steps in enumerate(MANY):
            for start in STARTS:
                for length in (2, 3, 4, 5, 9, 64 if number % 9 == 0 else 12):
                    signal = (start, some_ratios(length, number + start + 2000))
                    expected = analyze_exactly(Kernel(steps), signal)
                    self.same(filtered(Kernel(steps), signal), expected)

    def test_against_the_reference(self):
        for number, steps in enumerate(KERNELS):
            for length in (2, 3, 6):
                samples = some_ratios(length, number)
                low, high = reference.analyzed(steps, number - 5, reference.as_fractions(samples), True)
                expected = (low[0], reference.as_ratios(low[1])), (high[0], reference.as_ratios(high[1]))
                self.same(filtered(Kernel(steps), (number - 5, samples)), expected)

    def test_wrong_arguments(self):
        wrong_signals = (*NOT_EXACT_SIGNALS, (0, ()), (0, (ONE,)), (1, (ONE,)))
        self.check_order(filtered, [short_kernel(), (0, (ONE, ONE))],
                         [faults(NotKernel, NOT_KERNELS), faults(BadSignal, wrong_signals)])


class DualsTest(PressTest):
    def test_short_kernel(self):
        low = ((-1, (1, 2)), (0, (1, 1)), (1, (1, 2)))
        high = ((-2, (-1, 8)), (-1, (-1, 4)), (0, (3, 4)), (1, (-1, 4)), (2, (-1, 8)))
        self.same(duals(short_kernel()), (low, high))

    def test_one_step(self):
        low = ((-3, (-5, 4)), (-1, (3, 4)), (0, (1, 1)), (1, (3, 4)), (3, (-5, 4)))
        self.same(duals(Kernel((((-3, 5), 2),))), (low, ((0, (1, 1)),)))

    def test_weights_of_zero_are_left_out(self):
        self.same(duals(Kernel((((0, 0), 3), ((0,), 8)))), (((0, (1, 1)),), ((0, (1, 1)),)))
        high = ((-2, (-1, 2)), (-1, (-1, 2)), (1, (-1, 2)), (2, (-1, 2)))
        self.same(duals(Kernel((((-1,), 0), ((1,), 1))))[1], high)

    def test_against_the_reference(self):
        for steps in MANY:
            expected = pairs(reference.dual_of(steps, 0)), pairs(reference.dual_of(steps, 1))
            self.same(duals(Kernel(steps)), expected)

    def test_wrong_arguments(self):
        self.check_order(duals, [long_kernel()], [faults(NotKernel, NOT_KERNELS)])


if __name__ == "__main__":
    unittest.main()
