"""Points 27 to 30: levels of tag trees, the bits of queries, and the limits that they tell."""

import itertools
import unittest

from bandpress.errors import BadBits, BadLeaf, BadPosition, BadQueries, BadShape, BadThreshold, BadTree
from bandpress.tagtrees import TagReader, TagWriter, count_bits, read_queries, tree_levels, write_queries
from tests import trees
from tests.helpers import NOT_BLOCK_ROWS, NOT_INTEGERS, NOT_SHAPES, NOT_SIDES, PressTest, faults
from tests.test_numbercodes import WRONG_BITS

VALUES = (((0,),), ((30,),), ((2, 4),), ((3,), (1,), (2,)), ((5, 5), (5, 5)), ((30, 30, 0), (30, 30, 30)),
          ((0,) * 8,) * 8, ((30,) * 8,) * 8, *(trees.some_values(seed) for seed in range(25)))
TREE = ((3, 1, 4), (1, 5, 9))
NOT_VALUES = (*NOT_INTEGERS, -1, 31, (1,), 10 ** 30)
WRONG_TREES = faults(BadTree, (*NOT_BLOCK_ROWS, *(((value,),) for value in NOT_VALUES),
                               *(((1, 2), (3, value)) for value in NOT_VALUES)))
NOT_THRESHOLDS = (*NOT_INTEGERS, -1, 31, 10 ** 30)
NOT_QUERIES = (None, True, 0, "", "012", (), (0, 1), (0, 1, 2, 3), [0, 1, 2], {}, {0: 0, 1: 1, 2: 2}, ((0, 1, 2),),
               *((row, 0, 5) for row in (*NOT_INTEGERS, -1, 2)), *((0, column, 5) for column in (*NOT_INTEGERS, -1, 3)),
               *((0, 0, threshold) for threshold in NOT_THRESHOLDS))
WRONG_QUERIES = [
    *((value, BadQueries, {"index": None}) for value in
      (None, True, 0, "", "ab", [], [(0, 0, 5)], {}, ((0, 0, 5),) * 401, (None,) * 401)),
    *(((query,), BadQueries, {"index": 0}) for query in NOT_QUERIES),
    *((((0, 0, 5), (1, 2, 0), query, None), BadQueries, {"index": 2}) for query in NOT_QUERIES),
    (((0, 0, 5),) * 399 + (None,), BadQueries, {"index": 399}),
]


def shape_of(values):
    return len(values), len(values[0])


class TreeLevelsTest(PressTest):
    def test_written_out(self):
        self.same(tree_levels(((7,),)), (((7,),),))
        self.same(tree_levels(((2, 4),)), (((2, 4),), ((2,),)))
        self.same(tree_levels(((3, 1, 4), (1, 5, 9))), (((3, 1, 4), (1, 5, 9)), ((1, 4),), ((1,),)))
        self.same(tree_levels(((9,), (8,), (7,))), (((9,), (8,), (7,)), ((8,), (7,)), ((7,),)))
        self.same([len(level) for level in tree_levels(((0,) * 8,) * 5)], [5, 3, 2, 1])

    def test_against_the_reference(self):
        for values in VALUES:
            levels = tree_levels(values)
            self.same([{(i, j): value for i, row in enumerate(level) for j, value in enumerate(row)}
                       for level in levels], trees.levels_of(values))
            self.assertTrue(all(len(row) == len(level[0]) for level in levels for row in level))

    def test_wrong_arguments(self):
        self.check_order(tree_levels, [TREE], [WRONG_TREES])
        self.check_order(TagWriter, [TREE], [WRONG_TREES])


class WriteTest(PressTest):
    def test_written_out(self):
        self.same(write_queries(((2, 4),), ((0, 0, 3), (0, 1, 3))), (0, 0, 1, 1, 0))
        self.same(write_queries(((0,),), ((0, 0, 30), (0, 0, 30))), (1,))
        self.same(write_queries(((30,),), ((0, 0, 0),)), ())
        self.same(write_queries(((30,),), ((0, 0, 30), (0, 0, 30))), (0,) * 30)
        self.same(write_queries(((2, 4),), ()), ())
        self.same(write_queries(((2, 4),), ((0, 1, 2), (0, 0, 1), (0, 0, 4))), (0, 0, 1, 1))

    def test_query_by_query(self):
        for seed, values in enumerate(VALUES):
            queries = trees.some_queries(shape_of(values), 60, seed)
            writer = TagWriter(values)
            self.same([writer.ask(*query) for query in queries], trees.written(values, queries))
            self.same(write_queries(values, queries), trees.all_bits(values, queries))

    def test_asked_again(self):
        for values in VALUES:
            row, column = len(values) - 1, len(values[0]) // 2
            writer = TagWriter(values)
            first = writer.ask(row, column, 9)
            self.same(first, write_queries(values, ((row, column, 9),)))
            self.same([writer.ask(row, column, threshold) for threshold in (9, 8, 0)], [(), (), ()])
            self.same((*first, *writer.ask(row, column, 30)), write_queries(values, ((row, column, 30),)))

    def test_400_queries(self):
        values = VALUES[-1]
        queries = trees.some_queries(shape_of(values), 400, 3)
        self.same(write_queries(values, queries), trees.all_bits(values, queries))

    def test_wrong_arguments(self):
        for call in (write_queries, count_bits):
            self.check_order(call, [TREE, ((0, 2, 5), (1, 0, 30))], [WRONG_TREES, WRONG_QUERIES])

    def test_wrong_questions_change_nothing(self):
        writer = TagWriter(TREE)
        bits = writer.ask(0, 1, 2)
        for row, column in (*((row, 0) for row in (*NOT_INTEGERS, -1, 2)), (0, -1), (0, 3), (2, 3),
                            *((0, column) for column in NOT_INTEGERS)):
            self.fails(BadLeaf, writer.ask, row, column, 30)
            self.fails(BadLeaf, writer.ask, row, column, None)
        for threshold in NOT_THRESHOLDS:
            self.fails(BadThreshold, writer.ask, 0, 0, threshold)
        self.same((*bits, *writer.ask(0, 0, 30)), write_queries(TREE, ((0, 1, 2), (0, 0, 30))))


class CountBitsTest(PressTest):
    def test_written_out(self):
        self.same(count_bits(((2, 4),), ((0, 0, 3), (0, 1, 3))), 5)
        self.same(count_bits(((2, 4),), ()), 0)
        self.same(count_bits(((30,),), ((0, 0, 30),)), 30)

    def test_sum_over_nodes(self):
        for seed, values in enumerate(VALUES):
            for count in (0, 1, 3, 20, 100):
                queries = trees.some_queries(shape_of(values), count, seed)
                self.same(count_bits(values, queries), sum_over_nodes(values, queries))
                self.same(count_bits(values, queries), len(trees.all_bits(values, queries)))

    def test_any_order(self):
        for values, queries in ((TREE, ((0, 0, 4), (1, 2, 10), (0, 0, 2), (0, 1, 30), (1, 2, 1))),
                                (((2, 4),), ((0, 0, 3), (0, 1, 3), (0, 1, 30), (0, 1, 4)))):
            counts = {count_bits(values, order) for order in itertools.permutations(queries)}
            self.same(sorted(counts), [sum_over_nodes(values, queries)])


class ReadQueriesTest(PressTest):
    def test_written_out(self):
        self.same(read_queries((1, 2), ((0, 0, 3), (0, 1, 3)), (0, 0, 1, 1, 0)), (((2, 2), (3, 30)),))
        self.same(read_queries((1, 1), (), ()), (((0, 30),),))
        self.same(read_queries((2, 2), ((0, 0, 1),), (0,)), (((1, 30), (1, 30)), ((1, 30), (1, 30))))
        self.same(read_queries((1, 2), ((0, 0, 1),), (1, 0)), (((1, 30), (0, 0)),))
        self.same(read_queries((1, 2), ((0, 0, 1),), (1, 1)), (((0, 0), (0, 30)),))
        self.same(read_queries((1, 1), ((0, 0, 30),), (0,) * 30), (((30, 30),),))
        self.same(read_queries((8, 8), ((7, 7, 0),), ()), (((0, 30),) * 8,) * 8)

    def test_all_values_that_write_the_bits(self):
        numbers = range(31)
        for shape, queries in (((1, 1), ((0, 0, 7), (0, 0, 30))), ((1, 1), ((0, 0, 29),)),
                               ((1, 2), ((0, 1, 5), (0, 0, 3))), ((2, 1), ((0, 0, 30), (1, 0, 2))),
                               ((2, 1), ((1, 0, 30),)), ((1, 3), ((0, 2, 4), (0, 0, 2)))):
            for bits, limits in trees.limits_by_bits(shape, queries, numbers).items():
                self.same(read_queries(shape, queries, bits), limits)

    def test_all_values_below_the_thresholds(self):
        # Values from the greatest threshold on write the same bits, so the least of them and 30 stand for all.
        for shape, most, count in (((1, 3), 4, 6), ((3, 1), 3, 5), ((2, 2), 3, 6), ((2, 3), 2, 8), ((1, 5), 2, 7),
                                   ((3, 3), 1, 9), ((4, 2), 1, 8)):
            queries = trees.all_queries(shape, range(most + 1))
            for seed in range(3):
                some = tuple(queries[k * (seed * 2 + 5) % len(queries)] for k in range(count + seed))
                found = trees.limits_by_bits(shape, some, (*range(most + 1), 30))
                for bits, limits in found.items():
                    self.same(read_queries(shape, some, bits), limits)

    def test_all_bits(self):
        for shape, queries in (((1, 2), ((0, 0, 2), (0, 1, 2))), ((2, 1), ((1, 0, 1), (0, 0, 2))),
                               ((1, 3), ((0, 0, 1), (0, 2, 1), (0, 1, 1))), ((2, 2), ((0, 0, 1), (1, 1, 1), (0, 1, 1))),
                               ((2, 2), ((0, 0, 1), (1, 1, 1), (0, 1, 1), (1, 0, 1))), ((1, 1), ((0, 0, 3),)),
                               ((1, 3), ((0, 2, 2), (0, 1, 1), (0, 0, 2)))):
            found = trees.limits_by_bits(shape, queries, (*range(max(query[2] for query in queries) + 1), 30))
            for count in range(9):
                for bits in itertools.product((0, 1), repeat=count):
                    self.check_bits(shape, queries, bits, found)

    def check_bits(self, shape, queries, bits, found):
        """Checks bits against all that some values write."""
        read = trees.read_count(shape, queries, bits)
        if read is None:
            self.fails(BadBits, read_queries, shape, queries, bits, index=len(bits))
        elif read < len(bits):
            self.fails(BadBits, read_queries, shape, queries, bits, index=read)
        elif bits in found:
            self.same(read_queries(shape, queries, bits), found[bits])
        else:
            self.fails(BadBits, read_queries, shape, queries, bits, index=None)

    def test_no_values_write_the_bits(self):
        queries = ((0, 0, 3), (0, 1, 3))
        self.fails(BadBits, read_queries, (1, 2), queries, (0, 0, 1, 0, 0), index=None)
        self.fails(BadBits, read_queries, (1, 2), queries, (0, 0, 1, 0), index=4)
        self.fails(BadBits, read_queries, (1, 2), queries, (0, 0, 1, 0, 0, 0), index=5)
        self.fails(BadBits, read_queries, (1, 2), queries, (), index=0)
        self.fails(BadBits, read_queries, (1, 2), (), (0,), index=0)

    def test_limits_hold_the_values(self):
        for seed, values in enumerate(VALUES):
            queries = trees.some_queries(shape_of(values), 40, seed)
            limits = read_queries(shape_of(values), queries, write_queries(values, queries))
            for row, row_limits in zip(values, limits):
                self.assertTrue(all(least <= value <= most for value, (least, most) in zip(row, row_limits)))
            everything = tuple(trees.all_queries(shape_of(values), (30,)))
            self.same(read_queries(shape_of(values), everything, write_queries(values, everything)),
                      tuple(tuple((value, value) for value in row) for row in values))

    def test_wrong_arguments(self):
        queries = ((0, 2, 2), (1, 0, 30))
        bits = write_queries(TREE, queries)
        self.check_order(read_queries, [(2, 3), queries, bits],
                         [faults(BadShape, NOT_SHAPES), WRONG_QUERIES, WRONG_BITS])
        self.fails(BadQueries, read_queries, (1, 1), ((0, 0, 1), (0, 1, 1)), (), index=1)
        self.fails(BadQueries, read_queries, (1, 1), ((0, 0, 1), (1, 0, 1)), (), index=1)


class TagReaderTest(PressTest):
    def test_written_out(self):
        reader = TagReader(1, 2)
        self.same(reader.limits(), (((0, 30), (0, 30)),))
        self.same(reader.hear(0, 0, 3, (1, 0, 0, 1, 1, 0), 1), 5)
        self.same(reader.limits(), (((2, 2), (2, 30)),))
        self.same(reader.hear(0, 1, 3, (0,), 0), 1)
        self.same(reader.limits(), (((2, 2), (3, 30)),))
        self.same(reader.hear(0, 0, 30, (), 0), 0)

    def test_query_by_query(self):
        for seed, values in enumerate(VALUES):
            shape = shape_of(values)
            queries = trees.some_queries(shape, 30, seed)
            bits = write_queries(values, queries)
            reader = TagReader(*shape)
            position = 0
            for count, told in enumerate(trees.written(values, queries)):
                before = position
                position = reader.hear(*queries[count], bits, position)
                self.same(position, before + len(told))
                self.same(reader.limits(), read_queries(shape, queries[:count + 1], bits[:position]))
            self.same(position, len(bits))

    def test_bits_that_end_too_early(self):
        for seed, values in enumerate(VALUES):
            shape = shape_of(values)
            queries = trees.some_queries(shape, 4, seed)
            reader, writer = TagReader(*shape), TagWriter(values)
            for query in queries:
                bits = (0, 0, *writer.ask(*query))
                limits = reader.limits()
                for count in range(2, len(bits)):
                    self.fails(BadBits, reader.hear, *query, bits[:count], 2, index=count)
                    self.same(reader.limits(), limits)
                self.same(reader.hear(*query, bits, 2), len(bits))

    def test_bits_that_no_values_write(self):
        reader = TagReader(1, 2)
        self.same(reader.hear(0, 0, 3, (0, 0, 1, 0), 0), 4)
        self.same(reader.limits(), (((3, 30), (2, 2)),))
        self.fails(BadBits, reader.hear, 0, 1, 3, (0, 0), 1, index=None)
        self.same(reader.limits(), (((3, 30), (2, 2)),))
        self.same(reader.hear(0, 1, 3, (0, 1), 1), 2)
        self.same(reader.hear(0, 0, 5, (0, 1), 0), 2)
        self.same(reader.limits(), (((4, 4), (2, 2)),))

    def test_wrong_arguments_change_nothing(self):
        reader = TagReader(2, 3)
        reader.hear(0, 1, 2, (0, 1, 1, 1), 0)
        limits = reader.limits()
        wrong_leaves = faults(BadLeaf, (*NOT_INTEGERS, -1, 2))
        wrong_columns = faults(BadLeaf, (*NOT_INTEGERS, -1, 3))
        self.check_order(reader.hear, [0, 1, 2, (0, 1, 1, 0), 4],
                         [wrong_leaves, wrong_columns, faults(BadThreshold, NOT_THRESHOLDS), WRONG_BITS,
                          faults(BadPosition, (*NOT_INTEGERS, -1, 5))])
        self.same(reader.limits(), limits)

    def test_wrong_shapes(self):
        self.check_order(TagReader, [2, 3], [faults(BadShape, NOT_SIDES), faults(BadShape, NOT_SIDES)])
        for height, width in ((1, 1), (8, 8), (1, 8), (8, 1)):
            self.same(TagReader(height, width).limits(), (((0, 30),) * width,) * height)


def sum_over_nodes(values, queries):
    """The number of bits, by the sum over all nodes above queried leaves."""
    levels = trees.levels_of(values)
    total = 0
    for level, nodes in enumerate(levels):
        for (i, j), value in nodes.items():
            asked = [t for row, column, t in queries if (row // 2 ** level, column // 2 ** level) == (i, j)]
            if asked:
                above = levels[level + 1][i // 2, j // 2] if level + 1 < len(levels) else 0
                total += min(value, max(asked)) - min(above, max(asked)) + (1 if value < max(asked) else 0)
    return total


if __name__ == "__main__":
    unittest.main()
