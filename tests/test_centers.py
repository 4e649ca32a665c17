"""Point 14, second paragraph: partitions of values, and centers that move."""

import itertools
import random
import unittest
from fractions import Fraction

from bandpress.centers import assigned, best_cells, cells_error, centers_error, moved, settle
from bandpress.errors import BadCells, BadCenters, BadNumber, BadValues
from tests.helpers import NOT_INTEGERS, NOT_RATIOS, PressTest, faults
from tests.reference import as_ratio, as_ratios

VALUES = ((0,), (-1000,), (1000, -1000), (5, 5, 5), (1, 2, 10, 11, 3), (-1000,) * 12, tuple(range(12)),
          (1000, 3, 3, -7, 1000, -1000, 0, 0, 0, 5, 4, -4), (7, 7, 7, 7, 8), (3, 1, 2), (-5, -3, -2, -1))
CENTERS = (((0, 1),), ((-1000, 1), (1000, 1)), ((-1, 2), (1, 2)), ((1, 3), (2, 3), (5, 2)), ((0, 1), (10, 1)),
           ((-900, 7), (-5, 2), (0, 1), (1, 10 ** 30), (3, 1), (5000, 1)), ((2, 1), (4, 1), (6, 1)),
           ((-10 ** 30, 1), (10 ** 30, 1)))

WRONG_VALUES = [
    *((value, BadValues, {"index": None}) for value in
      (None, True, 5, "", "12", [], [1, 2], {}, {0: 1}, (), (0,) * 13, list(range(12)))),
    *(((value,), BadValues, {"index": 0}) for value in (*NOT_INTEGERS, (1, 2), -1001, 1001, 10 ** 30)),
    *(((1, 2, value, "x"), BadValues, {"index": 2}) for value in (*NOT_INTEGERS, -1001, 1001)),
    (((0,) * 11 + (True,)), BadValues, {"index": 11}),
    ((None,) * 12, BadValues, {"index": 0}),
    ((None,) * 13, BadValues, {"index": None}),
]
WRONG_CENTERS = [
    *((value, BadCenters, {"index": None}) for value in
      (None, True, 5, "", "12", [], [(1, 1)], {}, {0: (1, 1)}, (), tuple((k, 1) for k in range(7)))),
    *(((value,), BadCenters, {"index": 0}) for value in NOT_RATIOS),
    *((((1, 2), value, (1, 2)), BadCenters, {"index": 1}) for value in NOT_RATIOS),
    (((1, 2), (1, 2)), BadCenters, {"index": 1}),
    (((0, 1), (2, 3), (1, 2)), BadCenters, {"index": 2}),
    (((0, 1), (-1, 10 ** 30)), BadCenters, {"index": 1}),
    (((0, 1), (1, 1), (1, 1), None), BadCenters, {"index": 2}),
    (((0, 1), (1, 1), (2, 1), (3, 1), (4, 1), (4, 1)), BadCenters, {"index": 5}),
    ((1, 2), BadCenters, {"index": 0}),
]


def error_of(cells):
    """The error of cells as a Fraction."""
    total = Fraction(0)
    for cell in cells:
        average = Fraction(sum(cell), len(cell))
        total += sum((value - average) ** 2 for value in cell)
    return total


def partitions(values):
    """All partitions of values into cells, whatever their order."""
    if not values:
        yield []
        return
    first, *rest = values
    for cells in partitions(rest):
        yield [[first], *cells]
        for k in range(len(cells)):
            yield [*cells[:k], [first, *cells[k]], *cells[k + 1:]]


def nearest(value, centers):
    """The index of the nearest center; min takes the first of equals."""
    return min(range(len(centers)), key=lambda k: abs(value - Fraction(*centers[k])))


def some_values(seed):
    source = random.Random(seed)
    most = source.choice((3, 20, 1000))
    return tuple(source.randint(-most, most) for _ in range(source.randint(1, 12)))


def some_centers(seed):
    source = random.Random(500 + seed)
    numbers = {Fraction(source.randint(-40, 40), source.randint(1, 4)) for _ in range(source.randint(1, 6))}
    return as_ratios(sorted(numbers))


class CellsErrorTest(PressTest):
    def test_written_out(self):
        self.same(cells_error((1, 2, 10, 11, 3), ((1, 2, 3), (10, 11))), (5, 2))
        self.same(cells_error((1, 2), ((1,), (2,))), (0, 1))
        self.same(cells_error((1, 2), ((2, 1),)), (1, 2))
        self.same(cells_error((5, 5, 5), ((5,), (5, 5))), (0, 1))
        self.same(cells_error((-1000, 1000), ((1000, -1000),)), (2000000, 1))
        self.same(cells_error((0, 0, 1), ((0, 1, 0),)), (2, 3))
        self.same(cells_error((7,), ((7,),)), (0, 1))

    def test_any_partition_in_any_order(self):
        for values in ((4, -2, 4, 9), (0, 0, 0), (1000, -1000, 3, 5, 8)):
            for cells in partitions(values):
                for order in itertools.islice(itertools.permutations(cells), 6):
                    given = tuple(tuple(reversed(cell)) for cell in order)
                    self.same(cells_error(values, given), as_ratio(error_of(cells)))

    def test_wrong_arguments(self):
        values = (3, 1, 3, 2)
        wrong_cells = [
            *((value, BadCells, {"index": None}) for value in (None, True, 3, "", [], [(3, 1, 3, 2)], {}, {0: (3,)})),
            *((((3, 1), value), BadCells, {"index": 1}) for value in
              (None, True, 3, "", "32", (), [3, 2], {}, ("3",), (None,), (3, True), ((3, 2),), (3, [2]))),
            ((), BadCells, {"index": None}),
            (((3,), (1, 3)), BadCells, {"index": None}),
            (((3, 3), (1,)), BadCells, {"index": None}),
            (((3, 3, 3), (1, 2)), BadCells, {"index": 0}),
            (((3,), (3,), (3,), (1, 2)), BadCells, {"index": 2}),
            (((3, 1, 3, 2), (2,)), BadCells, {"index": 1}),
            (((3, 1, 3, 2), ()), BadCells, {"index": 1}),
            (((), (3, 1, 3, 2)), BadCells, {"index": 0}),
            (((3, 1), (3, 2, 7)), BadCells, {"index": 1}),
            (((3, 1), (2, 2), None), BadCells, {"index": 1}),
            (((3, True), (3, 2)), BadCells, {"index": 0}),
            (((10 ** 30,),), BadCells, {"index": 0}),
        ]
        self.check_order(cells_error, [values, ((2,), (3, 1, 3))], [WRONG_VALUES, wrong_cells])


class BestCellsTest(PressTest):
    def check(self, values, most, least):
        error, cells = best_cells(values, most)
        self.same((error, cells), (error, tuple(tuple(cell) for cell in cells)))
        self.same(error, as_ratio(least))
        self.assertTrue(1 <= len(cells) <= most)
        self.assertTrue(all(cells))
        self.same(tuple(itertools.chain(*cells)), tuple(sorted(values)))
        self.same(cells_error(values, cells), error)

    def test_written_out(self):
        self.same(best_cells((1, 2, 10, 11, 3), 2), ((5, 2), ((1, 2, 3), (10, 11))))
        self.same(best_cells((9, 1, 5), 1), ((32, 1), ((1, 5, 9),)))
        self.same(best_cells((9, 1, 5), 3), ((0, 1), ((1,), (5,), (9,))))
        self.same(best_cells((4,), 6), ((0, 1), ((4,),)))
        self.same(best_cells((0, 10, 11, 100), 2)[1], ((0, 10, 11), (100,)))

    def test_least_of_all_partitions(self):
        for values in [*(values for values in VALUES if len(values) < 8), *(some_values(k)[:7] for k in range(25))]:
            errors = {}
            for cells in partitions(values):
                errors[len(cells)] = min(error_of(cells), errors.get(len(cells), 10 ** 9))
            for most in range(1, 7):
                self.check(values, most, min(errors[k] for k in errors if k <= most))

    def test_least_of_all_runs(self):
        for values in (*VALUES, *(some_values(k) for k in range(25))):
            ordered = sorted(values)
            for most in range(1, 7):
                least = min(error_of(cut_up(ordered, cuts)) for many in range(most)
                            for cuts in itertools.combinations(range(1, len(values)), many))
                self.check(values, most, least)

    def test_averages_do_not_move(self):
        for values in (*VALUES, *(some_values(k) for k in range(200))):
            for most in range(1, 7):
                _, cells = best_cells(values, most)
                averages = [Fraction(sum(cell), len(cell)) for cell in cells]
                if len(set(averages)) == len(averages):
                    self.same(moved(values, as_ratios(averages)), as_ratios(averages))

    def test_wrong_arguments(self):
        self.check_order(best_cells, [(3, 1, 2), 2], [WRONG_VALUES, faults(BadNumber, (*NOT_INTEGERS, 0, 7, -1))])


class CentersTest(PressTest):
    def test_written_out(self):
        self.same(assigned((0, 1, 2), ((0, 1), (2, 1))), (0, 0, 1))
        self.same(assigned((5, -5), ((-5, 1), (5, 1))), (1, 0))
        self.same(assigned((3,), ((0, 1), (10 ** 9, 1))), (0,))
        self.same(assigned((1, 2), ((3, 2),)), (0, 0))
        self.same(centers_error((0, 1, 2), ((0, 1), (2, 1))), (1, 1))
        self.same(centers_error((1, 2), ((4, 3),)), (5, 9))
        self.same(moved((0, 1, 2), ((0, 1), (2, 1))), ((1, 2), (2, 1)))
        self.same(moved((0, 1), ((0, 1), (50, 3))), ((1, 2), (50, 3)))
        self.same(moved((5, 5, 6), ((-7, 2), (0, 1), (9, 1))), ((-7, 2), (0, 1), (16, 3)))

    def test_nearest_centers(self):
        for values in (*VALUES, *(some_values(k) for k in range(20))):
            for centers in (*CENTERS, *(some_centers(k) for k in range(20))):
                indexes = tuple(nearest(value, centers) for value in values)
                self.same(assigned(values, centers), indexes)
                error = sum((value - Fraction(*centers[k])) ** 2 for value, k in zip(values, indexes))
                self.same(centers_error(values, centers), as_ratio(error))
                expected = []
                for k, center in enumerate(centers):
                    own = [value for value, index in zip(values, indexes) if index == k]
                    expected.append(as_ratio(Fraction(sum(own), len(own))) if own else center)
                self.same(moved(values, centers), tuple(expected))

    def test_wrong_arguments(self):
        for call in (assigned, centers_error, moved, settle):
            self.check_order(call, [(3, 1, 2), ((-1, 2), (5, 1))], [WRONG_VALUES, WRONG_CENTERS])

    def test_limits_are_allowed(self):
        self.same(assigned((-1000, 1000) * 6, tuple((k, 1) for k in range(6))), (0, 5) * 6)


class SettleTest(PressTest):
    def test_written_out(self):
        self.same(settle((0, 1, 2, 10), ((0, 1), (1, 1))),
                  [((0, 1), (1, 1)), ((0, 1), (13, 3)), ((1, 1), (10, 1))])
        self.same(settle((4,), ((4, 1),)), [((4, 1),)])
        self.same(settle((4, 6), ((5, 1), (100, 1))), [((5, 1), (100, 1))])
        self.same(settle((4, 6), ((9, 1),)), [((9, 1),), ((5, 1),)])

    def test_moves_until_nothing_moves(self):
        for values in (*VALUES, *(some_values(k) for k in range(20))):
            for centers in (*CENTERS, *(some_centers(k) for k in range(20))):
                found = settle(values, centers)
                self.assertIsInstance(found, list)
                self.same(found[0], centers)
                for earlier, later in zip(found, found[1:]):
                    self.same(later, moved(values, earlier))
                    self.assertNotEqual(later, earlier)
                    self.assertLess(Fraction(*centers_error(values, later)), Fraction(*centers_error(values, earlier)))
                self.same(moved(values, found[-1]), found[-1])

    def test_the_list_is_new(self):
        first = settle((4, 6), ((9, 1),))
        first.append(None)
        self.same(settle((4, 6), ((9, 1),)), [((9, 1),), ((5, 1),)])


def cut_up(ordered, cuts):
    """The runs of a list between cuts."""
    ends = [0, *cuts, len(ordered)]
    return [ordered[start:stop] for start, stop in zip(ends, ends[1:])]


if __name__ == "__main__":
    unittest.main()
