"""Point 25, and pass_sizes of point 26: the byte strings of layers, and what they tell."""

import unittest

from bandpress.blocks import pass_count, planes_of
from bandpress.coder import encode
from bandpress.errors import BadBlock, BadCuts, BadPlanes, BadSegments, BadShape, NotTable
from bandpress.passes import decisions, known
from bandpress.segments import pass_sizes, read_segments, segments
from bandpress.tables import Table, own_table
from tests import coding, planes_coding
from tests.helpers import NOT_BLOCKS, NOT_BYTES, NOT_INTEGERS, NOT_SHAPES, NOT_TABLES, PressTest, faults
from tests.planes_coding import BLOCKS

SMALL = ((5, 0, -3),)
WRONG_CUTS = [
    *((value, BadCuts, {"index": None}) for value in
      (None, True, 3, "", "12", (), [], [3], {}, {0: 3}, (0,) * 9, (None,) * 9)),
    *(((value,), BadCuts, {"index": 0}) for value in (*NOT_INTEGERS, -1, 8, 10 ** 30)),
    *(((0, 3, value, None), BadCuts, {"index": 2}) for value in (*NOT_INTEGERS, -1, 2, 8, 10 ** 30)),
    ((3, 2), BadCuts, {"index": 1}),
    ((0, 1, 2, 3, 4, 5, 6, 8), BadCuts, {"index": 7}),
]


def some_cuts(count):
    """Cuts for a number of passes: one and eight, equal ones, 0 and all passes."""
    some = (count // 5, count // 3, count // 3, count // 2, 2 * count // 3, count)
    return ((0,), (count,), (count // 2,), (0, 0, 0), (count,) * 8, (0, *some, count), (0, count), some[:4])


def expected_segments(states, block, cuts):
    """The byte strings of the layers, with the states going on from layer to layer."""
    pairs = planes_coding.pairs_by_pass(block)
    code = coding.Coding(states)
    result, start = [], 0
    for cut in cuts:
        code.begin()
        for told in pairs[start:cut]:
            for bit, context in told:
                code.code(bit, context)
        result.append(coding.shortest(*code.ends()))
        start = cut
    return tuple(result)


def expected_ranges(states, shape, planes, cuts, data):
    """The ranges that any byte strings tell."""
    code = coding.Coding(states)
    numbers = []

    def ask(_, context):
        return coding.decoded(code, numbers[-1], [context])[0]

    def begin_layers(number):
        while len(numbers) < len(cuts) and (not numbers or cuts[len(numbers) - 1] <= number):
            code.begin()
            numbers.append(coding.number_of(data[len(numbers)]))

    walk = planes_coding.Walk(*shape, planes, ask)
    walk.run(cuts[-1], begin_layers)
    return walk.ranges()


class SegmentsTest(PressTest):
    def test_written_out(self):
        self.same(segments(own_table(), SMALL, (0,)), ((),))
        self.same(segments(own_table(), SMALL, (1,)), ((144,),))
        self.same(segments(own_table(), SMALL, (0, 1, 1)), ((), (144,), ()))
        self.same(segments(own_table(), ((0, 0), (0, 0)), (0, 0)), ((), ()))

    def test_one_layer_is_encoded_at_once(self):
        for block in BLOCKS[:30]:
            count = pass_count(block)
            for cut in (0, count // 3, count):
                pairs = [pair for number in range(cut) for pair in decisions(block, number)]
                self.same(segments(own_table(), block, (cut,)), (encode(own_table(), tuple(pairs)),))

    def test_against_the_reference(self):
        for number, block in enumerate(BLOCKS):
            states = coding.STATES[number % len(coding.STATES)]
            for cuts in some_cuts(pass_count(block)):
                self.same(segments(Table(states), block, cuts), expected_segments(states, block, cuts))

    def test_layers_without_passes(self):
        found = segments(own_table(), BLOCKS[15], (0, 4, 4, 7, 7, 7))
        self.same([len(data) > 0 for data in found], [False, True, False, True, False, False])

    def test_wrong_arguments(self):
        self.check_order(segments, [own_table(), SMALL, (0, 3, 7)],
                         [faults(NotTable, NOT_TABLES), faults(BadBlock, NOT_BLOCKS), WRONG_CUTS])
        self.fails(BadCuts, segments, own_table(), ((0,),), (0, 1), index=1)


class ReadSegmentsTest(PressTest):
    def test_written_out(self):
        self.same(read_segments(own_table(), (1, 3), 3, (1,), ((144,),)), (((4, 7), (-3, 3), (-3, 3)),))
        self.same(read_segments(own_table(), (1, 2), 0, (0, 0), ((1, 2), ())), (((0, 0), (0, 0)),))
        self.same(read_segments(own_table(), (2, 1), 32, (0,), ((),)), (((1 - 2 ** 32, 2 ** 32 - 1),),) * 2)

    def test_reads_what_was_written(self):
        for number, block in enumerate(BLOCKS):
            table = Table(coding.STATES[number % len(coding.STATES)])
            for cuts in some_cuts(pass_count(block)):
                data = segments(table, block, cuts)
                shape = (len(block), len(block[0]))
                self.same(read_segments(table, shape, planes_of(block), cuts, data), known(block, cuts[-1]))

    def test_any_bytes(self):
        shapes = ((1, 1), (1, 8), (8, 1), (2, 3), (3, 3))
        for seed in range(40):
            shape, planes = shapes[seed % 5], (0, 1, 2, 5, 9)[seed // 5 % 5]
            states = coding.STATES[seed % len(coding.STATES)]
            for cuts in some_cuts(planes_coding.count_of(planes)):
                data = tuple(coding.some_bytes(3 * layer % 7, seed + layer) for layer in range(len(cuts)))
                self.same(read_segments(Table(states), shape, planes, cuts, data),
                          expected_ranges(states, shape, planes, cuts, data))

    def test_any_bytes_with_most_planes(self):
        cuts, data = (20, 60, 94), (coding.some_bytes(20, 1), (255,) * 4000, coding.some_bytes(100, 2))
        for shape in ((8, 8), (1, 2)):
            found = read_segments(own_table(), shape, 32, cuts, data)
            self.same(found, expected_ranges(coding.OWN_STATES, shape, 32, cuts, data))
            self.assertTrue(all(least == most for row in found for least, most in row))

    def test_wrong_arguments(self):
        wrong_segments = [
            *((value, BadSegments, {"index": None}) for value in
              (None, True, 3, "", "123", (), [], [(), (), ()], {}, ((), ()), ((),) * 4, (None,) * 4)),
            *((((), value, None), BadSegments, {"index": 1}) for value in
              (None, True, 3, "", "12", [], [1, 2], {}, (0,) * 4001)),
            *((((), (), (1, byte)), BadSegments, {"index": 2}) for byte in NOT_BYTES),
            (([], (), ()), BadSegments, {"index": 0}),
        ]
        self.check_order(read_segments, [own_table(), (1, 3), 3, (0, 3, 7), ((1,), (2, 3), ())],
                         [faults(NotTable, NOT_TABLES), faults(BadShape, NOT_SHAPES),
                          faults(BadPlanes, (*NOT_INTEGERS, -1, 33, 10 ** 30)), WRONG_CUTS, wrong_segments])
        self.fails(BadCuts, read_segments, own_table(), (1, 3), 0, (0, 1), ((), ()), index=1)
        self.fails(BadCuts, read_segments, own_table(), (1, 3), 32, (94, 95), ((), ()), index=1)
        read_segments(own_table(), (8, 1), 1, (1,), ((0,) * 4000,))


class PassSizesTest(PressTest):
    def test_written_out(self):
        self.same(pass_sizes(own_table(), ((0,),)), (0,))
        self.same(pass_sizes(own_table(), ((1,),)), (0, 1))
        self.same(pass_sizes(own_table(), SMALL), (0, 1, 1, 1, 1, 1, 1, 1))

    def test_length_of_the_first_passes_as_one_layer(self):
        for number, block in enumerate(BLOCKS):
            table = Table(coding.STATES[number % len(coding.STATES)])
            sizes = pass_sizes(table, block)
            self.same(len(sizes), pass_count(block) + 1)
            for passes in range(0, len(sizes), 1 + len(sizes) // 9):
                self.same(sizes[passes], len(segments(table, block, (passes,))[0]))

    def test_wrong_arguments(self):
        self.check_order(pass_sizes, [own_table(), SMALL],
                         [faults(NotTable, NOT_TABLES), faults(BadBlock, NOT_BLOCKS)])


if __name__ == "__main__":
    unittest.main()
