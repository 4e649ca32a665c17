"""Points 11 and 12: places, atoms, and how far errors of coefficients reach."""

import itertools
import unittest
from fractions import Fraction

from bandpress.atoms import atom, mean_square, needed, norm, places, reached, worst_case, worst_errors
from bandpress.errors import BadBounds, BadLevels, BadPosition, BadSpan, NotKernel
from bandpress.kernels import Kernel, long_kernel, short_kernel
from tests import reference
from tests.helpers import NOT_FOUR_LEVELS, NOT_INTEGERS, NOT_KERNELS, NOT_RATIOS, NOT_SIGNAL_SPANS, PressTest, faults
from tests.samples import KERNELS

SPANS = ((0, 1), (1, 2), (-1, 1), (0, 3), (-5, 4), (6, 14), (-1000, -994), (-999, -990), (900, 907), (899, 901))
IDENTITY = Kernel((((0,), 0),))
WRONG_KERNELS = faults(NotKernel, NOT_KERNELS)
WRONG_SPANS = faults(BadSpan, NOT_SIGNAL_SPANS)
WRONG_LEVELS = faults(BadLevels, NOT_FOUR_LEVELS)
# With the span (-3, 5) and 2 levels, band 0 has the indexes 0 and 1, band 1 -1 and 0, and band 2 -2 to 1.
NOT_PLACES = (None, True, 0, "", "00", (), (0,), (0, 0, 0), [0, 0], {0: 0, 1: 0}, (True, 0), (0, True), (False, 0),
              (0, False), (None, 0), (0, None), ("0", 0), (0, "0"), ((0,), 0), (0, [0]), (-1, 0), (3, 0), (0, -1),
              (0, 2), (1, -2), (1, 1), (2, -3), (2, 2))
NOT_POSITIONS = (*NOT_INTEGERS, -4, 5, 1000)


def settings():
    """Kernels' steps with spans and levels."""
    for number, steps in enumerate(KERNELS):
        for place, span in enumerate(SPANS):
            yield steps, span, (number + place) % 5


def some_bounds(levels):
    """Bounds for levels + 1 bands, one of them 0."""
    return ((3, 2), (1, 7), (0, 1), (5, 1), (2, 3))[:levels + 1]


def all_atoms(steps, span, levels):
    """The Fractions of all atoms, by their places in ascending order, from the reference."""
    return {(band, index): reference.composed(steps, span, levels, {(band, index): 1})
            for band, indexes in enumerate(reference.band_indexes(span, levels)) for index in indexes}


class PlacesTest(PressTest):
    def test_written_out(self):
        self.same(places((0, 4), 0), ((0, 0), (0, 1), (0, 2), (0, 3)))
        self.same(places((0, 4), 1), ((0, 0), (0, 1), (1, 0), (1, 1)))
        self.same(places((0, 4), 2), ((0, 0), (1, 0), (2, 0), (2, 1)))
        self.same(places((-3, 5), 2), ((0, 0), (0, 1), (1, -1), (1, 0), (2, -2), (2, -1), (2, 0), (2, 1)))

    def test_spans_of_one_position(self):
        self.same(places((4, 5), 4), ((2, 0),))
        self.same(places((0, 1), 4), ((0, 0),))
        self.same(places((1, 2), 4), ((4, 0),))
        self.same(places((-1, 0), 0), ((0, -1),))
        self.same(places((-1000, -999), 4), ((1, -63),))

    def test_as_many_as_positions_in_ascending_order(self):
        for span in (*SPANS, (-1000, -936), (900, 964), (1, 65), (-32, 32)):
            for levels in range(5):
                indexes = reference.band_indexes(span, levels)
                expected = tuple((band, index) for band in range(levels + 1) for index in indexes[band])
                self.same(places(span, levels), expected)
                self.assertEqual(len(expected), span[1] - span[0])

    def test_wrong_arguments(self):
        self.check_order(places, [(0, 4), 2], [WRONG_SPANS, WRONG_LEVELS])


class AtomTest(PressTest):
    def test_written_out(self):
        half, one = (1, 2), (1, 1)
        self.same(atom(short_kernel(), (0, 4), 1, (0, 0)), (one, half, (0, 1), (0, 1)))
        self.same(atom(short_kernel(), (0, 4), 1, (0, 1)), ((0, 1), half, one, one))
        self.same(atom(short_kernel(), (0, 4), 1, (1, 0)), ((-1, 2), (5, 8), (-1, 4), (-1, 4)))
        self.same(atom(short_kernel(), (0, 4), 0, (0, 2)), ((0, 1), (0, 1), one, (0, 1)))
        self.same(atom(long_kernel(), (7, 8), 4, (4, 3)), (one,))

    def test_against_the_reference(self):
        for steps, span, levels in settings():
            for place, samples in all_atoms(steps, span, levels).items():
                self.same(atom(Kernel(steps), span, levels, place), reference.as_ratios(samples))

    def test_longest_span_and_most_levels(self):
        for span in ((-1000, -936), (900, 964)):
            indexes = reference.band_indexes(span, 4)
            for place in ((0, indexes[0][0]), (1, indexes[1][-1]), (4, indexes[4][9])):
                expected = reference.composed(KERNELS[1], span, 4, {place: 1})
                self.same(atom(long_kernel(), span, 4, place), reference.as_ratios(expected))

    def test_wrong_arguments(self):
        self.check_order(atom, [short_kernel(), (-3, 5), 2, (1, 0)],
                         [WRONG_KERNELS, WRONG_SPANS, WRONG_LEVELS, faults(BadPosition, NOT_PLACES)])

    def test_places_next_to_each_limit(self):
        kernel = short_kernel()
        for span in SPANS:
            for levels in range(5):
                for band, indexes in enumerate(reference.band_indexes(span, levels)):
                    ends = (indexes[0] - 1, indexes[-1] + 1) if indexes else range(span[0] - 1, span[1] + 2)
                    for index in ends:
                        self.fails(BadPosition, atom, kernel, span, levels, (band, index))
                self.fails(BadPosition, atom, kernel, span, levels, (levels + 1, span[0]))
                self.fails(BadPosition, atom, kernel, span, levels, (-1, span[0]))


class ReachedAndNeededTest(PressTest):
    def test_written_out(self):
        self.same(reached(short_kernel(), (0, 4), 1, (0, 0)), (0, 1))
        self.same(reached(short_kernel(), (0, 4), 1, (0, 1)), (1, 2, 3))
        self.same(reached(short_kernel(), (10, 26), 1, (1, 9)), (17, 18, 19, 20, 21))
        self.same(needed(short_kernel(), (0, 4), 1, 0), ((0, 0), (1, 0)))
        self.same(needed(short_kernel(), (0, 4), 1, 3), ((0, 1), (1, 0), (1, 1)))
        self.same(needed(IDENTITY, (-3, 5), 2, -2), ((1, -1),))
        self.same(needed(long_kernel(), (7, 8), 4, 7), ((4, 3),))

    def test_zeros_between_are_left_out(self):
        self.same(reached(Kernel((((0, 1), 0),)), (0, 16), 1, (0, 4)), (5, 8, 11))

    def test_against_the_reference(self):
        for steps, span, levels in settings():
            atoms = all_atoms(steps, span, levels)
            for place, samples in atoms.items():
                expected = tuple(position for position, sample in zip(range(*span), samples) if sample != 0)
                self.same(reached(Kernel(steps), span, levels, place), expected)
            for number, position in enumerate(range(*span)):
                expected = tuple(place for place in atoms if atoms[place][number] != 0)
                self.same(needed(Kernel(steps), span, levels, position), expected)

    def test_wrong_arguments(self):
        self.check_order(reached, [short_kernel(), (-3, 5), 2, (1, 0)],
                         [WRONG_KERNELS, WRONG_SPANS, WRONG_LEVELS, faults(BadPosition, NOT_PLACES)])
        self.check_order(needed, [short_kernel(), (-3, 5), 2, 4],
                         [WRONG_KERNELS, WRONG_SPANS, WRONG_LEVELS, faults(BadPosition, NOT_POSITIONS)])
        self.same(len(needed(IDENTITY, (-3, 5), 2, -3)), 1)


class WorstErrorsTest(PressTest):
    def test_written_out(self):
        self.same(worst_errors(short_kernel(), (0, 2), 1, ((1, 1), (1, 1))), ((3, 2), (3, 2)))
        self.same(worst_errors(short_kernel(), (0, 2), 1, ((1, 3), (0, 1))), ((1, 3), (1, 3)))
        self.same(worst_errors(IDENTITY, (-3, 5), 2, ((1, 1), (2, 1), (7, 2))),
                  ((7, 2), (2, 1), (7, 2), (1, 1), (7, 2), (2, 1), (7, 2), (1, 1)))
        self.same(worst_errors(long_kernel(), (7, 8), 4, ((1, 1),) * 4 + ((5, 3),)), ((5, 3),))

    def test_bounds_of_zero(self):
        self.same(worst_errors(long_kernel(), (-3, 5), 2, ((0, 1),) * 3), ((0, 1),) * 8)

    def test_are_the_greatest_over_all_errors(self):
        for steps in KERNELS:
            for span, levels in (((-2, 3), 1), ((1, 6), 2), ((0, 2), 3), ((3, 4), 2), ((-1, 4), 0)):
                bounds = some_bounds(levels)
                expected = [Fraction(0)] * (span[1] - span[0])
                for errors in all_errors(span, levels, bounds):
                    samples = reference.composed(steps, span, levels, errors)
                    expected = [max(most, abs(sample)) for most, sample in zip(expected, samples)]
                self.same(worst_errors(Kernel(steps), span, levels, bounds), reference.as_ratios(expected))

    def test_against_the_reference(self):
        for steps, span, levels in settings():
            bounds = some_bounds(levels)
            expected = [Fraction(0)] * (span[1] - span[0])
            for (band, _), samples in all_atoms(steps, span, levels).items():
                expected = [total + Fraction(*bounds[band]) * abs(sample) for total, sample in zip(expected, samples)]
            self.same(worst_errors(Kernel(steps), span, levels, bounds), reference.as_ratios(expected))

    def test_wrong_arguments(self):
        self.check_order(worst_errors, [short_kernel(), (-3, 5), 2, ((1, 2),) * 3],
                         [WRONG_KERNELS, WRONG_SPANS, WRONG_LEVELS, wrong_bounds()])


class WorstCaseTest(PressTest):
    def test_written_out(self):
        self.same(worst_case(short_kernel(), (0, 2), 1, ((1, 1), (1, 3)), 0), (((1, 1),), ((-1, 3),)))
        self.same(worst_case(short_kernel(), (0, 2), 1, ((1, 1), (1, 3)), 1), (((1, 1),), ((1, 3),)))
        bounds = ((1, 2), (2, 3), (3, 4))
        self.same(worst_case(IDENTITY, (-3, 5), 2, bounds, 4), (((1, 2),) * 2, ((2, 3),) * 2, ((3, 4),) * 4))
        self.same(worst_case(long_kernel(), (7, 8), 2, bounds, 7), ((), (), ((3, 4),)))

    def test_bounds_of_zero(self):
        self.same(worst_case(short_kernel(), (0, 2), 1, ((1, 1), (0, 1)), 0), (((1, 1),), ((0, 1),)))

    def test_attains_the_worst_error(self):
        for steps, span, levels in settings():
            bounds = some_bounds(levels)
            worst = worst_errors(Kernel(steps), span, levels, bounds)
            indexes = reference.band_indexes(span, levels)
            for number, position in enumerate(range(*span)):
                errors = worst_case(Kernel(steps), span, levels, bounds, position)
                coefficients = {(band, index): Fraction(*error) for band in range(levels + 1)
                                for index, error in zip(indexes[band], errors[band])}
                attained = reference.composed(steps, span, levels, coefficients)[number]
                self.same(reference.as_ratio(attained), worst[number])

    def test_signs_are_those_of_the_atoms(self):
        for steps, span, levels in settings():
            bounds = some_bounds(levels)
            atoms = all_atoms(steps, span, levels)
            for number, position in enumerate(range(*span)):
                expected = [[] for _ in range(levels + 1)]
                for (band, index), samples in atoms.items():
                    sign = 1 if samples[number] >= 0 else -1
                    expected[band].append(reference.as_ratio(sign * Fraction(*bounds[band])))
                self.same(worst_case(Kernel(steps), span, levels, bounds, position), tuple(map(tuple, expected)))

    def test_wrong_arguments(self):
        self.check_order(worst_case, [short_kernel(), (-3, 5), 2, ((1, 2),) * 3, -3],
                         [WRONG_KERNELS, WRONG_SPANS, WRONG_LEVELS, wrong_bounds(), faults(BadPosition, NOT_POSITIONS)])


class NormTest(PressTest):
    def test_written_out(self):
        self.same(norm(short_kernel(), (0, 4), 1, (0, 0)), (5, 4))
        self.same(norm(short_kernel(), (0, 4), 1, (1, 0)), (49, 64))
        self.same(norm(long_kernel(), (7, 8), 4, (4, 3)), (1, 1))

    def test_against_the_reference(self):
        for steps, span, levels in settings():
            for place, samples in all_atoms(steps, span, levels).items():
                expected = sum(sample * sample for sample in samples)
                self.same(norm(Kernel(steps), span, levels, place), reference.as_ratio(expected))

    def test_wrong_arguments(self):
        self.check_order(norm, [short_kernel(), (-3, 5), 2, (1, 0)],
                         [WRONG_KERNELS, WRONG_SPANS, WRONG_LEVELS, faults(BadPosition, NOT_PLACES)])


class MeanSquareTest(PressTest):
    def test_written_out(self):
        self.same(mean_square(IDENTITY, (-3, 5), 2, ((1, 1), (2, 1), (1, 3))), (94, 9))
        self.same(mean_square(long_kernel(), (7, 8), 1, ((9, 1), (2, 3))), (4, 9))
        self.same(mean_square(long_kernel(), (-3, 5), 2, ((0, 1),) * 3), (0, 1))

    def test_is_the_average_over_all_signs(self):
        for steps in KERNELS:
            for span, levels in (((-2, 3), 1), ((1, 6), 2), ((0, 2), 3), ((3, 4), 2), ((-1, 4), 0)):
                bounds = some_bounds(levels)
                sums = [sum(sample * sample for sample in reference.composed(steps, span, levels, errors))
                        for errors in all_errors(span, levels, bounds)]
                expected = reference.as_ratio(sum(sums) / len(sums))
                self.same(mean_square(Kernel(steps), span, levels, bounds), expected)

    def test_is_the_sum_of_bounds_and_norms(self):
        for steps, span, levels in settings():
            bounds = some_bounds(levels)
            expected = sum(Fraction(*bounds[band]) ** 2 * sum(sample * sample for sample in samples)
                           for (band, _), samples in all_atoms(steps, span, levels).items())
            self.same(mean_square(Kernel(steps), span, levels, bounds), reference.as_ratio(expected))

    def test_wrong_arguments(self):
        self.check_order(mean_square, [short_kernel(), (-3, 5), 2, ((1, 2),) * 3],
                         [WRONG_KERNELS, WRONG_SPANS, WRONG_LEVELS, wrong_bounds()])


class BoundsTest(PressTest):
    def test_as_many_as_bands(self):
        kernel = short_kernel()
        for levels in range(5):
            right = ((1, 2),) * (levels + 1)
            self.assertEqual(len(worst_errors(kernel, (0, 5), levels, right)), 5)
            for wrong in (right[1:], right * 2, list(right)):
                self.fails(BadBounds, worst_errors, kernel, (0, 5), levels, wrong, index=None)
                self.fails(BadBounds, mean_square, kernel, (0, 5), levels, wrong, index=None)
                self.fails(BadBounds, worst_case, kernel, (0, 5), levels, wrong, 0, index=None)


def all_errors(span, levels, bounds):
    """Dicts of errors by places: each coefficient wrong by exactly its bound, with all choices of signs."""
    keys = [(band, index) for band, indexes in enumerate(reference.band_indexes(span, levels)) for index in indexes]
    for signs in itertools.product((1, -1), repeat=len(keys)):
        yield {key: sign * Fraction(*bounds[key[0]]) for key, sign in zip(keys, signs)}


def wrong_bounds():
    """Faults of bounds for three bands."""
    right = (1, 2)
    result = faults(BadBounds, (None, True, 0, "", "abc", (), (right,), (right,) * 2, (right,) * 4, [right] * 3, {},
                                {0: right, 1: right, 2: right}), index=None)
    for value in (*NOT_RATIOS, (-1, 2), (-5, 1)):
        result += faults(BadBounds, [(value, right, right), (value, value, value)], index=0)
        result += faults(BadBounds, [(right, value, right), ((0, 1), value, None)], index=1)
        result += faults(BadBounds, [(right, right, value)], index=2)
    return result


if __name__ == "__main__":
    unittest.main()
