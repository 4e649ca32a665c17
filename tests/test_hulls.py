"""Points 32 and 33: corners, edges and slopes of the points of a block."""

import unittest
from fractions import Fraction

from bandpress.errors import BadChoice, BadPoints
from bandpress.hulls import edges, hull, slopes_of
from tests import rates
from tests.helpers import NOT_INTEGERS, PressTest, faults
from tests.reference import as_ratio

NOT_POINTS = (None, True, 0, "", "01", (), (0,), (0, 1, 2), [0, 1], {}, {0: 0, 1: 1}, ((0, 1),))
NOT_VALUES = (*NOT_INTEGERS, -1, 1001, 10 ** 30)
# Wrong points of a block, with the index that the error has.
WRONG_POINTS = [
    *((value, None) for value in (None, True, 0, "", "ab", (), [], [(0, 1)], {}, {0: (0, 1)},
                                  tuple((rate, 5) for rate in range(13)), (None,) * 13)),
    *(((value,), 0) for value in (*NOT_POINTS, (1, 5), (-1, 5), (1000, 0))),
    *((((value, 5),), 0) for value in NOT_VALUES),
    *((((0, value),), 0) for value in NOT_VALUES),
    *((((0, 5), (1, 4), value, None), 2) for value in (*NOT_POINTS, (1, 3), (0, 3), (1, 4), (-5, 3))),
    *((((0, 5), (1, 4), (value, 3)), 2) for value in NOT_VALUES),
    *((((0, 5), (1, 4), (2, value)), 2) for value in NOT_VALUES),
    (tuple((rate, 5) for rate in range(11)) + ((10, 5),), 11),
    (((0, 5), (1000, 4), (1001, 3)), 2),
]
WRONG = [(value, BadPoints, {"block": 0, "index": index}) for value, index in WRONG_POINTS]


class HullTest(PressTest):
    def test_written_out(self):
        self.same(hull(((0, 10), (1, 10), (2, 3), (3, 3), (4, 5), (5, 2))), (0, 2, 5))
        self.same(hull(((0, 5),)), (0,))
        self.same(hull(((0, 5), (1, 5))), (0,))
        self.same(hull(((0, 9), (2, 5), (4, 1))), (0, 2))
        self.same(hull(((0, 9), (2, 4), (4, 1))), (0, 1, 2))
        self.same(hull(rates.LINE), (0, 11))
        self.same(edges(((0, 10), (1, 10), (2, 3), (3, 3), (4, 5), (5, 2))), ((2, 7), (3, 1)))
        self.same(edges(((0, 5),)), ())
        self.same(edges(rates.LINE), ((11, 550),))

    def test_by_trying_slopes(self):
        for points in rates.POINTS:
            corners = rates.corners(points)
            self.same([points[index] for index in hull(points)], corners)
            self.same(list(hull(points)), sorted(hull(points)))
            self.same(edges(points), tuple((later[0] - earlier[0], earlier[1] - later[1])
                                           for earlier, later in zip(corners, corners[1:])))

    def test_edges_fall(self):
        for points in rates.POINTS:
            ratios = [Fraction(drop, rise) for rise, drop in edges(points)]
            self.assertTrue(all(ratio > 0 for ratio in ratios))
            self.assertTrue(all(one > other for one, other in zip(ratios, ratios[1:])))
            self.assertEqual(hull(points)[0], 0)

    def test_wrong_arguments(self):
        for call in (hull, edges):
            self.check_order(call, [rates.LINE], [WRONG])
            call(tuple((rate, 1000) for rate in range(12)))


class SlopesTest(PressTest):
    def test_written_out(self):
        points = ((0, 9), (2, 5), (4, 1), (6, 1))
        self.same([slopes_of(points, index) for index in range(4)],
                  [((2, 1), None), ((2, 1), (2, 1)), ((0, 1), (2, 1)), ((0, 1), (0, 1))])
        self.same(slopes_of(((0, 9), (2, 6), (4, 1)), 1), None)
        self.same(slopes_of(((0, 5),), 0), ((0, 1), None))
        self.same([slopes_of(((0, 7), (3, 2)), index) for index in (0, 1)], [((5, 3), None), ((0, 1), (5, 3))])
        self.same([slopes_of(((0, 2), (3, 7)), index) for index in (0, 1)], [((0, 1), None), None])

    def test_by_trying_slopes(self):
        for points in rates.POINTS:
            for index in range(len(points)):
                expected = rates.slopes_of(points, index)
                if expected is not None:
                    least, most = expected
                    expected = (as_ratio(least), None if most is None else as_ratio(most))
                self.same(slopes_of(points, index), expected)

    def test_corners_have_two_slopes(self):
        for points in rates.POINTS:
            found = [slopes_of(points, index) for index in range(len(points))]
            corners = [index for index, slopes in enumerate(found) if slopes is not None and slopes[0] != slopes[1]]
            self.same(tuple(corners), hull(points))

    def test_wrong_arguments(self):
        self.check_order(slopes_of, [rates.LINE, 11], [WRONG, faults(BadChoice, (*NOT_INTEGERS, -1, 12, 10 ** 30))])


if __name__ == "__main__":
    unittest.main()
