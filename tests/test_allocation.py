"""Points 34 to 37: totals of choices, choices by slopes, choices that fit sizes, and layers."""

import itertools
import unittest
from fractions import Fraction

from bandpress.allocation import best_choice, best_totals, choice_for, frontier, gap_bound, hull_choice, layers
from bandpress.allocation import merged_choices, merged_hull, shows_best, total
from bandpress.errors import BadChoice, BadPoints, BadSize, BadSlope, BadSlopes
from bandpress.hulls import edges
from tests import rates
from tests.helpers import NOT_INTEGERS, NOT_SLOPES, PressTest, faults
from tests.reference import as_ratio
from tests.test_hulls import WRONG_POINTS

TWO = (((0, 9), (2, 5), (4, 1)), ((0, 8), (1, 6), (2, 5), (3, 5)))
GOOD = ((0, 5), (1, 4))
SIZES = (0, 1, 2, 3, 5, 8, 13, 40, 399, 400)
SLOPES = ((0, 1), (1, 1), (2, 1), (1, 2), (3, 2), (1, 1000), (50, 1), (1000, 1), (10 ** 30, 1), (1, 10 ** 30))

WRONG_BLOCKS = [
    *((value, BadPoints, {"block": None, "index": None}) for value in
      (None, True, 0, "", "ab", (), [], [GOOD], {}, {0: GOOD}, (GOOD,) * 7, (None,) * 7)),
    *(((points,), BadPoints, {"block": 0, "index": index}) for points, index in WRONG_POINTS),
    *(((GOOD, GOOD, points, None), BadPoints, {"block": 2, "index": index}) for points, index in WRONG_POINTS),
    ((GOOD, ((0, 5), (0, 4)), ()), BadPoints, {"block": 1, "index": 1}),
    (GOOD, BadPoints, {"block": 0, "index": 0}),
]
WRONG_CHOICES = faults(BadChoice, (
    None, True, 0, "", "01", (), (0,), (0, 0, 0), [0, 0], {}, {0: 0, 1: 0}, ((0, 0),),
    *((value, 0) for value in (*NOT_INTEGERS, -1, 3, 10 ** 30)),
    *((0, value) for value in (*NOT_INTEGERS, -1, 4, 10 ** 30))))
WRONG_SLOPES = faults(BadSlope, NOT_SLOPES)
WRONG_SIZES = faults(BadSize, (*NOT_INTEGERS, -1, 401, 10 ** 30))


def few(blocks):
    """Whether there are not too many choices to try them all."""
    count = 1
    for points in blocks:
        count *= len(points)
    return count <= 1300


SMALL_BLOCKS = tuple(blocks for blocks in rates.BLOCKS if few(blocks))


class TotalTest(PressTest):
    def test_written_out(self):
        self.same(total(TWO, (0, 0)), (0, 17))
        self.same(total(TWO, (2, 1)), (5, 7))
        self.same(total((((0, 5),),) * 6, (0,) * 6), (0, 30))

    def test_all_choices(self):
        for blocks in SMALL_BLOCKS[:20]:
            for choice in rates.choices(blocks):
                self.same(total(blocks, choice), rates.total(blocks, choice))

    def test_wrong_arguments(self):
        self.check_order(total, [TWO, (2, 3)], [WRONG_BLOCKS, WRONG_CHOICES])


class MergedHullTest(PressTest):
    def test_written_out(self):
        # The edge of slope 2 stands in both blocks, and is joined.
        self.same(merged_hull(TWO), ((0, 17), (5, 7), (6, 6)))
        self.same(merged_choices(TWO), ((0, 0), (2, 1), (2, 2)))
        self.same(merged_hull((((0, 5),),)), ((0, 5),))
        self.same(merged_choices((((0, 5),), ((0, 1), (1, 1)))), ((0, 0),))

    def test_corners_of_all_totals(self):
        for blocks in SMALL_BLOCKS:
            totals = [rates.total(blocks, choice) for choice in rates.choices(blocks)]
            self.same(merged_hull(blocks), tuple(rates.corners(corner_candidates(totals))))

    def test_choices_have_the_totals(self):
        for blocks in rates.BLOCKS:
            choices = merged_choices(blocks)
            self.same(tuple(rates.total(blocks, choice) for choice in choices), merged_hull(blocks))
            for one, other in zip(choices, choices[1:]):
                self.assertTrue(all(before <= after for before, after in zip(one, other)))

    def test_steps_are_the_edges_of_all_blocks(self):
        for blocks in rates.BLOCKS:
            by_slope = {}
            for points in blocks:
                for rise, drop in edges(points):
                    rises, drops = by_slope.get(Fraction(drop, rise), (0, 0))
                    by_slope[Fraction(drop, rise)] = (rises + rise, drops + drop)
            steps = [by_slope[slope] for slope in sorted(by_slope, reverse=True)]
            found = merged_hull(blocks)
            self.same([(later[0] - earlier[0], earlier[1] - later[1])
                       for earlier, later in zip(found, found[1:])], steps)

    def test_wrong_arguments(self):
        for call in (merged_hull, merged_choices, frontier):
            self.check_order(call, [TWO], [WRONG_BLOCKS])


class ChoiceForTest(PressTest):
    def test_written_out(self):
        self.same(choice_for(TWO, (2, 1)), (0, 0))
        self.same(choice_for(TWO, (3, 2)), (2, 1))
        self.same(choice_for(TWO, (1, 1)), (2, 1))
        self.same(choice_for(TWO, (0, 1)), (2, 2))
        self.same(choice_for(TWO, (10 ** 30, 1)), (0, 0))

    def test_least_cost_then_least_rate(self):
        for blocks in rates.BLOCKS:
            for slope in slopes_for(blocks):
                expected = tuple(min(range(len(points)), key=lambda k: (rates.cost(points[k], slope), points[k][0]))
                                 for points in blocks)
                self.same(choice_for(blocks, as_ratio(slope)), expected)

    def test_wrong_arguments(self):
        self.check_order(choice_for, [TWO, (1, 2)], [WRONG_BLOCKS, WRONG_SLOPES])


class ShowsBestTest(PressTest):
    def test_written_out(self):
        self.assertIs(shows_best(TWO, (0, 0), (2, 1)), True)
        self.assertIs(shows_best(TWO, (2, 1), (2, 1)), True)
        self.assertIs(shows_best(TWO, (1, 0), (2, 1)), True)
        self.assertIs(shows_best(TWO, (2, 2), (2, 1)), False)
        self.assertIs(shows_best(TWO, (2, 3), (0, 1)), True)
        self.assertIs(shows_best(TWO, (2, 1), (0, 1)), False)

    def test_all_choices(self):
        for blocks in SMALL_BLOCKS[:25]:
            for slope in slopes_for(blocks)[::3]:
                for choice in itertools.islice(rates.choices(blocks), 0, None, 7):
                    expected = all(rates.cost(points[index], slope) == min(rates.cost(pair, slope) for pair in points)
                                   for points, index in zip(blocks, choice))
                    self.assertIs(shows_best(blocks, choice, as_ratio(slope)), expected)

    def test_no_choice_that_is_not_longer_is_better(self):
        for blocks in SMALL_BLOCKS:
            totals = [rates.total(blocks, choice) for choice in rates.choices(blocks)]
            for slope in slopes_for(blocks)[::2]:
                choice = choice_for(blocks, as_ratio(slope))
                self.assertIs(shows_best(blocks, choice, as_ratio(slope)), True)
                if slope > 0:
                    rate, distortion = total(blocks, choice)
                    self.assertEqual(min(other[1] for other in totals if other[0] <= rate), distortion)

    def test_wrong_arguments(self):
        self.check_order(shows_best, [TWO, (2, 3), (1, 2)], [WRONG_BLOCKS, WRONG_CHOICES, WRONG_SLOPES])


class SizesTest(PressTest):
    def test_written_out(self):
        self.same([best_choice(TWO, size) for size in range(7)],
                  [(0, 0), (0, 1), (1, 0), (1, 1), (2, 0), (2, 1), (2, 2)])
        self.same(best_totals(TWO, 7), (17, 15, 13, 11, 9, 7, 6, 6))
        self.same(best_totals(TWO, 0), (17,))
        self.same(best_choice((((0, 5), (1, 5)),) * 3, 400), (0, 0, 0))
        # Of equal totals, the least tuple.
        self.same(best_choice((((0, 5), (1, 4)),) * 3, 2), (0, 1, 1))

    def test_against_all_choices(self):
        for blocks in SMALL_BLOCKS:
            totals = [(*reversed(rates.total(blocks, choice)), choice) for choice in rates.choices(blocks)]
            for size in SIZES:
                expected = min(told for told in totals if told[1] <= size)
                self.same(best_choice(blocks, size), expected[2])
                self.same(best_totals(blocks, size)[-1], expected[0])

    def test_totals_of_all_sizes(self):
        for blocks in rates.BLOCKS[::3]:
            found = best_totals(blocks, 400)
            self.same(len(found), 401)
            for size in SIZES:
                self.same(best_totals(blocks, size), found[:size + 1])
                rate, distortion = total(blocks, best_choice(blocks, size))
                self.same(distortion, found[size])
                self.assertLessEqual(rate, size)

    def test_at_below_and_above_a_total(self):
        for blocks in SMALL_BLOCKS[:20]:
            for rate, distortion in frontier(blocks):
                if rate <= 400:
                    self.same(best_totals(blocks, rate)[-1], distortion)
                if 0 < rate <= 400:
                    self.assertGreater(best_totals(blocks, rate)[-2], distortion)
                if rate < 400:
                    self.assertLessEqual(best_totals(blocks, rate + 1)[-1], distortion)

    def test_six_blocks_of_twelve_points(self):
        blocks = tuple(tuple((rate, (997 * rate * rate + 31 * k) % 1001) for rate in range(12)) for k in range(6))
        found = best_totals(blocks, 66)
        self.same(found[-1], sum(min(distortion for _, distortion in points) for points in blocks))
        for size in (0, 7, 20, 66):
            self.same(total(blocks, best_choice(blocks, size))[1], found[size])

    def test_wrong_arguments(self):
        for call in (best_choice, best_totals, hull_choice, gap_bound):
            self.check_order(call, [TWO, 400], [WRONG_BLOCKS, WRONG_SIZES])


class FrontierTest(PressTest):
    def test_written_out(self):
        self.same(frontier(TWO), ((0, 17), (1, 15), (2, 13), (3, 11), (4, 9), (5, 7), (6, 6)))
        self.same(frontier((((0, 5), (1, 5), (2, 7)),)), ((0, 5),))
        self.same(frontier((((0, 1000), (1000, 0)),) * 6), tuple((1000 * k, 6000 - 1000 * k) for k in range(7)))

    def test_against_all_totals(self):
        for blocks in SMALL_BLOCKS:
            totals = sorted({rates.total(blocks, choice) for choice in rates.choices(blocks)})
            expected = [(rate, distortion) for rate, distortion in totals
                        if not any(other != (rate, distortion) and other[0] <= rate and other[1] <= distortion
                                   for other in totals)]
            self.same(frontier(blocks), tuple(expected))


class HullChoiceTest(PressTest):
    def test_written_out(self):
        self.same([hull_choice(TWO, size) for size in (0, 4, 5, 6, 400)], [(0, 0), (0, 0), (2, 1), (2, 2), (2, 2)])
        self.same([gap_bound(TWO, size) for size in (0, 3, 4, 5, 6, 400)],
                  [(0, 1), (6, 1), (8, 1), (0, 1), (0, 1), (0, 1)])
        self.same(gap_bound((((0, 7), (3, 2)),), 2), (10, 3))
        self.same(gap_bound((((0, 1000), (401, 0)),), 400), (400000, 401))

    def test_last_merged_choice_that_fits(self):
        for blocks in rates.BLOCKS:
            choices = merged_choices(blocks)
            for size in SIZES:
                fitting = [choice for choice in choices if rates.total(blocks, choice)[0] <= size]
                self.same(hull_choice(blocks, size), fitting[-1])
                self.check_gap(blocks, size, choices[len(fitting) - 1:len(fitting) + 1])

    def check_gap(self, blocks, size, choices):
        """Checks the bound for a size: choices are the one that fits last and the next one, if there is one."""
        found = Fraction(*gap_bound(blocks, size))
        self.same(as_ratio(found), gap_bound(blocks, size))
        totals = [rates.total(blocks, choice) for choice in choices]
        if len(totals) == 1:
            self.assertEqual(found, 0)
        else:
            drop, rise = totals[0][1] - totals[1][1], totals[1][0] - totals[0][0]
            self.assertEqual(found, Fraction(drop, rise) * (size - totals[0][0]))
            self.assertLess(found, drop)
        self.assertTrue(0 <= totals[0][1] - best_totals(blocks, size)[-1] <= found)


class LayersTest(PressTest):
    def test_written_out(self):
        self.same(layers(TWO, ((5, 1), (3, 2), (0, 1))), ((0, 0), (2, 1), (2, 2)))
        self.same(layers(TWO, ((1, 2),)), ((2, 2),))
        self.same(layers(TWO, ((10 ** 30, 1), (2, 1), (1, 1), (1, 10 ** 30))), ((0, 0), (0, 0), (2, 1), (2, 2)))

    def test_choices_for_slopes(self):
        for blocks in rates.BLOCKS:
            slopes = slopes_for(blocks)[::-1]
            for count in (1, 2, 3, 4):
                some = tuple(as_ratio(slope) for slope in slopes[::1 + len(slopes) // count][:count])
                found = layers(blocks, some)
                self.same(found, tuple(choice_for(blocks, slope) for slope in some))
                for one, other in zip(found, found[1:]):
                    self.assertTrue(all(before <= after for before, after in zip(one, other)))

    def test_wrong_arguments(self):
        wrong_slopes = [
            *((value, BadSlopes, {"index": None}) for value in
              (None, True, 0, "", "12", (), [], [(1, 1)], {}, {0: (1, 1)}, tuple((9 - k, 1) for k in range(5)))),
            *(((value,), BadSlopes, {"index": 0}) for value in NOT_SLOPES),
            *((((9, 1), (8, 1), value, None), BadSlopes, {"index": 2}) for value in NOT_SLOPES),
            (((1, 1), (1, 1)), BadSlopes, {"index": 1}),
            (((1, 2), (1, 3), (2, 5)), BadSlopes, {"index": 2}),
            (((0, 1), (0, 1)), BadSlopes, {"index": 1}),
            (((4, 1), (3, 1), (2, 1), (2, 1)), BadSlopes, {"index": 3}),
            ((1, 2), BadSlopes, {"index": 0}),
        ]
        self.check_order(layers, [TWO, ((3, 1), (5, 2), (1, 10 ** 30), (0, 1))], [WRONG_BLOCKS, wrong_slopes])


def slopes_for(blocks):
    """The Fractions of slopes at which something changes, of some between them, and of great ones; ascending."""
    slopes = {Fraction(*slope) for slope in SLOPES}
    for points in blocks:
        slopes.update(rates.slopes_to_try(points)[:40])
    return sorted(slopes)


def corner_candidates(totals):
    """Totals without those that others with the same rate, or less, and less distortion leave no chance."""
    least = {}
    for rate, distortion in totals:
        least[rate] = min(distortion, least.get(rate, distortion))
    return [(rate, least[rate]) for rate in least
            if all(least[other] > least[rate] for other in least if other < rate)]


if __name__ == "__main__":
    unittest.main()
