"""Points 22 to 24: the cells of passes, their bits and contexts, and what is known after them."""

import unittest

from bandpress.blocks import pass_count, planes_of
from bandpress.errors import BadBlock, BadPasses
from bandpress.passes import decisions, known, pass_cells
from tests import planes_coding
from tests.helpers import NOT_BLOCKS, NOT_INTEGERS, PressTest, faults
from tests.planes_coding import BLOCKS

SMALL = ((5, 0, -3),)
WRONG_BLOCKS = faults(BadBlock, NOT_BLOCKS)


class PassCellsTest(PressTest):
    def test_written_out(self):
        self.same([pass_cells(SMALL, number) for number in range(7)],
                  [[(0, 0), (0, 1), (0, 2)], [(0, 1)], [(0, 0)], [(0, 2)], [(0, 1)], [(0, 0), (0, 2)], []])

    def test_significant_in_the_middle_of_a_pass(self):
        # In the significance pass each cell makes the next one a neighbor of a significant cell.
        self.same(pass_cells(((4, 2, 2, 2),), 1), [(0, 1), (0, 2), (0, 3)])
        self.same(pass_cells(((2, 2, 2, 4),), 1), [(0, 2)])
        self.same(pass_cells(((2, 2, 2, 4),), 3), [(0, 0), (0, 1)])
        self.same(pass_cells(((4, 0, 2, 2),), 1), [(0, 1)])

    def test_against_the_reference(self):
        for block in BLOCKS:
            count = pass_count(block)
            expected, _, _ = planes_coding.coded_block(block, count)
            for number in some_numbers(count - 1):
                self.same(pass_cells(block, number), expected[number])

    def test_each_cell_once_in_each_plane(self):
        for block in BLOCKS[:40]:
            cells = [(row, column) for row in range(len(block)) for column in range(len(block[0]))]
            planes = planes_of(block)
            for plane in some_numbers(planes - 1):
                numbers = (0,) if plane == planes - 1 else range(3 * (planes - plane) - 5, 3 * (planes - plane) - 2)
                coded = [cell for number in numbers for cell in pass_cells(block, number)]
                self.same(sorted(coded), cells)

    def test_the_list_is_new(self):
        pass_cells(SMALL, 0).append(None)
        self.same(pass_cells(SMALL, 0), [(0, 0), (0, 1), (0, 2)])

    def test_wrong_arguments(self):
        for call in (pass_cells, decisions):
            self.check_order(call, [SMALL, 3], [WRONG_BLOCKS, faults(BadPasses, (*NOT_INTEGERS, -1, 7, 10 ** 30))])
            self.fails(BadPasses, call, ((0, 0),), 0)
            self.fails(BadPasses, call, ((0, 0),), -1)
            self.fails(BadPasses, call, ((1, 0),), 1)


class DecisionsTest(PressTest):
    def test_written_out(self):
        self.same(decisions(SMALL, 0), ((1, 0), (0, 9), (0, 3), (0, 0)))
        self.same(decisions(SMALL, 1), ((0, 3),))
        self.same(decisions(SMALL, 2), ((0, 12),))
        self.same(decisions(SMALL, 3), ((1, 0), (1, 9)))
        self.same(decisions(SMALL, 5), ((1, 14), (1, 12)))
        self.same(decisions(SMALL, 6), ())

    def test_first_digits_after_the_sign(self):
        # 12 without significant neighbors, 13 with one, 14 from the second digit on.
        self.same([decisions(((7, 0, 0),), number) for number in (2, 5)], [((1, 12),), ((1, 14),)])
        self.same([decisions(((7, 0), (0, -6)), number) for number in (2, 5)],
                  [((1, 13), (1, 13)), ((1, 14), (0, 14))])
        # The neighbor becomes significant after the first digit, or just before it.
        self.same([decisions(((8, 1),), number) for number in (2, 5, 8)], [((0, 12),), ((0, 14),), ((0, 14),)])
        self.same(decisions(((4, 2),), 2), ((0, 13),))

    def test_contexts_of_digits(self):
        cross = ((0, 2, 0), (2, 1, 2), (0, 2, 0))
        corners = ((2, 0, 2), (0, 1, 0), (2, 0, 2))
        for block, context in ((cross, 6), (corners, 2), (((2, 1, 0),), 3), (((2, 1, 2),), 6),
                               (((2, 0), (0, 1)), 1), (((2, 2), (0, 1)), 4), (((2, 2, 2), (0, 1, 0)), 5),
                               (((2, 2, 2), (2, 1, 2), (2, 2, 2)), 8), (((2, 2, 0), (2, 1, 0)), 7)):
            self.assertEqual([pair for pair in decisions(block, 1) if pair == (1, context)], [(1, context)],
                             msg=(block, context))

    def test_signs_with_neighbors(self):
        # A bit and context of the sign of the middle cell, coded in plane 0 after its neighbors.
        for block, pair in ((((2, 1),), (0, 10)), (((2, -1),), (1, 10)), (((-2, 1),), (1, 10)),
                            (((-2, -1),), (0, 10)), (((2, 1, 2),), (0, 10)), (((-2, 1, -2),), (1, 10)),
                            (((2, 1, -2),), (0, 9)), (((2, -1, -2),), (1, 9)), (((2,), (-1,), (2,)), (1, 10)),
                            (((0, 2), (2, 1)), (0, 11)), (((0, -2), (-2, 1)), (1, 11)), (((0, -2), (-2, -1)), (0, 11)),
                            (((0, 2), (-2, 1)), (0, 9)), (((0, 2), (-2, -1)), (1, 9)), (((2, 0), (0, -1)), (1, 9)),
                            (((0, 2, 0), (-2, 1, -2), (0, 2, 0)), (0, 9)),
                            (((0, -2, 0), (-2, 1, -2), (0, -2, 0)), (1, 11)),
                            (((0, 2, 0), (-2, -1, 2), (0, 2, 0)), (1, 10)),
                            (((0, -2, 0), (-2, -1, 2), (0, -2, 0)), (0, 10))):
            signs = [(bit, context) for bit, context in decisions(block, 1) if 9 <= context <= 11]
            self.same(signs, [pair])

    def test_against_the_reference(self):
        for block in BLOCKS:
            expected = planes_coding.pairs_by_pass(block)
            for number in some_numbers(len(expected) - 1):
                self.same(decisions(block, number), expected[number])

    def test_all_contexts_are_met(self):
        met = {context for block in BLOCKS for pairs in planes_coding.pairs_by_pass(block) for _, context in pairs}
        self.same(sorted(met), list(range(15)))


class KnownTest(PressTest):
    def test_written_out(self):
        self.same([known(SMALL, passes)[0] for passes in range(8)], [
            ((-7, 7), (-7, 7), (-7, 7)),
            ((4, 7), (-3, 3), (-3, 3)),
            ((4, 7), (-1, 1), (-3, 3)),
            ((4, 5), (-1, 1), (-3, 3)),
            ((4, 5), (-1, 1), (-3, -2)),
            ((4, 5), (0, 0), (-3, -2)),
            ((5, 5), (0, 0), (-3, -3)),
            ((5, 5), (0, 0), (-3, -3)),
        ])

    def test_no_planes(self):
        self.same(known(((0, 0), (0, 0)), 0), (((0, 0), (0, 0)), ((0, 0), (0, 0))))

    def test_all_and_no_passes(self):
        for block in BLOCKS:
            everything = tuple(tuple((value, value) for value in row) for row in block)
            self.same(known(block, pass_count(block)), everything)
            rest = 2 ** planes_of(block) - 1
            self.same(known(block, 0), tuple(tuple((-rest, rest) for _ in row) for row in block))

    def test_against_the_reference(self):
        for block in BLOCKS:
            for passes in some_numbers(pass_count(block)):
                _, _, ranges = planes_coding.coded_block(block, passes)
                self.same(known(block, passes), ranges)
                for row, found in zip(block, ranges):
                    self.assertTrue(all(least <= value <= most for value, (least, most) in zip(row, found)))

    def test_wrong_arguments(self):
        self.check_order(known, [SMALL, 7], [WRONG_BLOCKS, faults(BadPasses, (*NOT_INTEGERS, -1, 8, 10 ** 30))])
        self.fails(BadPasses, known, ((0, 0),), 1)
        self.fails(BadPasses, known, ((0, 1),), 2)


def some_numbers(last):
    """All numbers from 0 to last, or the first and last ones and some between if there are many."""
    return [number for number in range(last + 1) if number < 12 or number > last - 4 or number % 9 == 0]


if __name__ == "__main__":
    unittest.main()
