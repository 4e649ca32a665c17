"""Point 13: moments, vanishing moments and inner positions."""

import unittest
from fractions import Fraction

from bandpress.errors import BadNumber, BadSpan, NotKernel
from bandpress.kernels import Kernel, long_kernel, short_kernel
from bandpress.lifting import analyze_exactly
from bandpress.moments import inner, moment, vanishing
from tests import reference
from tests.helpers import NOT_INTEGERS, NOT_KERNELS, NOT_SIGNAL_SPANS, PressTest, faults
from tests.samples import KERNELS, some_steps

# More steps that take polynomials to 0: each of the first steps takes lines to 0, or cubics.
SMOOTH = ((((-9, 1), 4), ((0,), 0), ((0, 0), 8)), (((-1,), 1), ((9, -1), 5)), (((-1,), 1), ((1,), 2), ((0,), 0)),
          (((-64, 0), 7),), (((0, -1), 1), ((3,), 3)), (((1,), 1),))
MANY = (*KERNELS, *SMOOTH, *(some_steps(seed) for seed in range(12)))
SPANS = ((0, 1), (1, 2), (0, 16), (-7, 8), (-1000, -936), (-999, -940), (900, 964), (899, 910), (5, 30), (-12, 40))


class MomentTest(PressTest):
    def test_written_out(self):
        kernel = short_kernel()
        self.same(moment(kernel, 0), (0, 1))
        self.same(moment(kernel, 1), (0, 1))
        self.same(moment(kernel, 2), (-1, 1))
        self.same(moment(kernel, 4), (-1, 1))
        self.same(moment(Kernel((((-3, 5), 2),)), 0), (2, 1))
        self.same(moment(Kernel((((-3, 5), 2),)), 2), (21, 1))
        self.same(moment(long_kernel(), 4), (9, 1))
        self.same(moment(Kernel((((0,), 0),)), 0), (1, 1))
        self.same(moment(Kernel((((0,), 0),)), 30), (0, 1))

    def test_against_the_reference(self):
        for steps in MANY:
            table = reference.filter_of(steps, 1)
            for power in (0, 1, 2, 3, 4, 5, 6, 17, 29, 30):
                expected = sum(weight * offset ** power for offset, weight in table.items())
                self.same(moment(Kernel(steps), power), reference.as_ratio(expected))

    def test_wrong_arguments(self):
        self.check_order(moment, [short_kernel(), 3],
                         [faults(NotKernel, NOT_KERNELS), faults(BadNumber, (*NOT_INTEGERS, -1, 31))])


class VanishingTest(PressTest):
    def test_written_out(self):
        self.same(vanishing(short_kernel()), 2)
        self.same(vanishing(long_kernel()), 4)
        self.same(vanishing(Kernel((((0,), 0),))), 0)
        self.same(vanishing(Kernel((((1,), 1),))), 0)
        self.same(vanishing(Kernel((((0, -1), 1),))), 2)

    def test_greatest_degree_that_becomes_zero(self):
        for steps in MANY:
            table = reference.filter_of(steps, 1)
            degree = 0
            while all(at_odd_position(table, position, degree) == 0 for position in (-7, 1, 25)):
                degree += 1
            self.same(vanishing(Kernel(steps)), degree)

    def test_is_the_least_power_whose_moment_is_not_zero(self):
        for steps in MANY:
            power = vanishing(Kernel(steps))
            self.assertEqual([moment(Kernel(steps), less) for less in range(power)], [(0, 1)] * power)
            self.assertNotEqual(moment(Kernel(steps), power), (0, 1))

    def test_wrong_arguments(self):
        self.check_order(vanishing, [short_kernel()], [faults(NotKernel, NOT_KERNELS)])


class InnerTest(PressTest):
    def test_written_out(self):
        self.same(inner(short_kernel(), (0, 8)), (1, 3, 5))
        self.same(inner(short_kernel(), (1, 8)), (3, 5))
        self.same(inner(short_kernel(), (0, 9)), (1, 3, 5, 7))
        self.same(inner(long_kernel(), (0, 16)), (3, 5, 7, 9, 11))
        self.same(inner(long_kernel(), (-4, 3)), (-1,))
        self.same(inner(long_kernel(), (-3, 4)), ())
        self.same(inner(short_kernel(), (1, 2)), ())
        self.same(inner(Kernel((((0,), 0),)), (1, 2)), (1,))
        self.same(inner(Kernel((((0,), 0),)), (2, 3)), ())
        self.same(inner(Kernel((((1, 0), 0),)), (-3, 0)), ())

    def test_against_the_reference(self):
        for steps in MANY:
            offsets = reference.filter_of(steps, 1)
            for span in SPANS:
                positions = range(*span)
                expected = tuple(i for i in positions if i % 2 and all(i + offset in positions for offset in offsets))
                self.same(inner(Kernel(steps), span), expected)

    def test_coefficients_of_polynomials(self):
        for steps in MANY:
            kernel = Kernel(steps)
            degree = vanishing(kernel)
            for leading in (Fraction(3), Fraction(-2, 7)):
                samples = [leading * i ** degree + (5 * i ** (degree - 1) if degree else 0) for i in range(-30, 31)]
                _, (start, high) = analyze_exactly(kernel, (-30, reference.as_ratios(samples)))
                expected = reference.as_ratio(leading * Fraction(*moment(kernel, degree)))
                for position in inner(kernel, (-30, 31)):
                    self.same(high[(position - 1) // 2 - start], expected)

    def test_wrong_arguments(self):
        self.check_order(inner, [short_kernel(), (0, 64)],
                         [faults(NotKernel, NOT_KERNELS), faults(BadSpan, NOT_SIGNAL_SPANS)])


def at_odd_position(table, position, degree):
    """What a filter makes at a position of the signal x[i] = i ** degree."""
    return sum(weight * (position + offset) ** degree for offset, weight in table.items())


if __name__ == "__main__":
    unittest.main()
