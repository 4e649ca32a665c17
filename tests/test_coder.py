"""Points 16 to 18: intervals of pairs, byte strings in them, and what is settled."""

import itertools
import unittest
from fractions import Fraction

from bandpress.coder import decode, doublings, encode, interval, is_code, settled
from bandpress.errors import BadBytes, BadContexts, BadPairs, NotTable, TooMany
from bandpress.tables import Table, own_table
from tests import coding
from tests.helpers import NOT_BYTES, NOT_CONTEXTS, NOT_PAIRS, NOT_TABLES, PressTest, faults
from tests.reference import as_ratio

RARE = Table(((1, 0, 0, 0),))
EVEN = Table(((32, 0, 0, 0),))
GOOD_PAIRS = ((0, 0), (1, 31), (1, 5))

WRONG_TABLES = faults(NotTable, NOT_TABLES)
WRONG_PAIRS = [
    *((value, BadPairs, {"index": None}) for value in (None, True, 0, "", "01", [], [(0, 1)], {}, {0: (0, 1)})),
    *(((value,), BadPairs, {"index": 0}) for value in NOT_PAIRS),
    *(((*GOOD_PAIRS, value, None), BadPairs, {"index": 3}) for value in NOT_PAIRS),
    (((0, 0),) * 3999 + (None,), BadPairs, {"index": 3999}),
    (((0, 0),) * 4001, TooMany, {"most": 4000}),
    ((None,) * 4001, TooMany, {"most": 4000}),
    (((0, 0),) * 4000 + (None,), TooMany, {"most": 4000}),
    ((*GOOD_PAIRS, (0, True), *(((0, 0),) * 3997)), TooMany, {"most": 4000}),
    ([None] * 4001, BadPairs, {"index": None}),
]
WRONG_BYTES = [
    *((value, BadBytes, {"index": None}) for value in
      (None, True, 0, "", "ab", [], [1, 2], {}, {0: 1}, (0,) * 4001, (None,) * 4001)),
    *(((value,), BadBytes, {"index": 0}) for value in NOT_BYTES),
    *(((0, 255, value, None), BadBytes, {"index": 2}) for value in NOT_BYTES),
    ((0,) * 3999 + (256,), BadBytes, {"index": 3999}),
]
WRONG_CONTEXTS = [
    *((value, BadContexts, {"index": None}) for value in (None, True, 0, "", "01", [], [1, 2], {}, {0: 1}, [0] * 4001)),
    *(((value,), BadContexts, {"index": 0}) for value in NOT_CONTEXTS),
    *(((0, 31, value, None), BadContexts, {"index": 2}) for value in NOT_CONTEXTS),
    ((0,) * 3999 + (32,), BadContexts, {"index": 3999}),
    ((0,) * 4001, TooMany, {"most": 4000}),
    ((0,) * 4000 + (None,), TooMany, {"most": 4000}),
    ((None, *((0,) * 4000)), TooMany, {"most": 4000}),
]


def samples():
    """Tables with their states, and pairs to code with them."""
    for number, states in enumerate(coding.STATES):
        for count in (0, 1, 2, 3, 8, 40, 150):
            yield Table(states), states, coding.some_pairs(count, number + count)


def all_pairs(contexts):
    """All sequences of pairs with these contexts."""
    for bits in itertools.product((0, 1), repeat=len(contexts)):
        yield tuple(zip(bits, contexts))


def strings_inside(coded, count):
    """The byte strings of a length, at most 2, whose number lies in an interval, in ascending order."""
    shift = 16 + coded.doublings
    low, behind = coded.low << 8 * count, coded.low + coded.width << 8 * count
    numbers = [number for number in range(256 ** count) if low <= number << shift < behind]
    return [tuple(number >> 8 * place & 255 for place in reversed(range(count))) for number in numbers]


class IntervalTest(PressTest):
    def test_written_out(self):
        self.same(interval(own_table(), ((0, 5), (1, 5))), ((9, 32), (7, 32)))
        self.same(interval(own_table(), ()), ((0, 1), (1, 1)))
        self.same(interval(own_table(), ((0, 0),)), ((0, 1), (1, 2)))
        self.same(interval(own_table(), ((1, 31),)), ((1, 2), (1, 2)))
        self.same(interval(RARE, ((0, 3), (1, 3))), ((63 * 63, 4096), (63, 4096)))

    def test_rare_part_is_rounded_down(self):
        # After eight common bits the width is 32768 + 24998; a 64th of it is not whole.
        coded = coding.coded(((1, 0, 0, 0),), ((0, 0),) * 8)
        self.assertNotEqual(coded.width % 64, 0)
        self.same(interval(RARE, ((0, 0),) * 9)[1], as_ratio(Fraction(coded.width - coded.width // 64, 65536)))

    def test_doubled_below_half(self):
        # The width becomes just 32768 at first, and just 32767 at last.
        self.same(doublings(EVEN, ((0, 0),)), 0)
        table = Table(((17, 1, 1, 0), (19, 2, 2, 0), (2, 2, 2, 0)))
        self.same(doublings(table, ((0, 0), (0, 0), (1, 0))), 5)
        self.same(doublings(table, ((0, 0), (0, 0), (1, 0), (0, 0))), 6)

    def test_against_the_reference(self):
        for table, states, pairs in samples():
            coded = coding.coded(states, pairs)
            least, behind = coded.ends()
            self.same(interval(table, pairs), (as_ratio(least), as_ratio(behind - least)))
            self.same(doublings(table, pairs), coded.doublings)

    def test_side_by_side(self):
        for states in coding.STATES:
            for contexts in ((), (3,), (0, 0, 0, 0, 0, 0), (1, 2, 1, 31, 1, 2)):
                found = sorted(interval(Table(states), pairs) for pairs in all_pairs(contexts))
                ends = sorted((Fraction(*least), Fraction(*least) + Fraction(*width)) for least, width in found)
                self.assertEqual([ends[0][0], ends[-1][1]], [0, 1])
                for one, other in zip(ends, ends[1:]):
                    self.assertEqual(one[1], other[0])

    def test_common_bits_lie_below(self):
        for states in coding.STATES:
            for pairs in ((), ((0, 2),), ((1, 2),), ((1, 2), (1, 2)), coding.some_pairs(30, 5)):
                common = coding.coded(states, pairs).contexts.get(2, (0, 0))[1]
                least, _ = interval(Table(states), pairs)
                self.same(interval(Table(states), (*pairs, (common, 2)))[0], least)
                self.assertGreater(Fraction(*interval(Table(states), (*pairs, (1 - common, 2)))[0]), Fraction(*least))

    def test_4000_pairs(self):
        for table, states in ((own_table(), coding.OWN_STATES), (RARE, ((1, 0, 0, 0),))):
            for pairs in (coding.some_pairs(4000, 3), ((1, 0),) * 4000, ((0, 7),) * 4000):
                coded = coding.coded(states, pairs)
                least, behind = coded.ends()
                self.same(interval(table, pairs), (as_ratio(least), as_ratio(behind - least)))
                self.same(doublings(table, pairs), coded.doublings)

    def test_wrong_arguments(self):
        for call in (interval, doublings, encode, settled):
            self.check_order(call, [own_table(), GOOD_PAIRS], [WRONG_TABLES, WRONG_PAIRS])


class EncodeTest(PressTest):
    def test_written_out(self):
        self.same(encode(own_table(), ((0, 5), (1, 5))), (72,))
        self.same(encode(own_table(), ()), ())
        self.same(encode(own_table(), ((0, 1),)), ())
        self.same(encode(own_table(), ((1, 1),)), (128,))
        self.same(encode(EVEN, ((0, 1),) * 15 + ((1, 1),)), (0, 1))

    def test_against_the_reference(self):
        for table, states, pairs in samples():
            self.same(encode(table, pairs), coding.shortest(*coding.coded(states, pairs).ends()))

    def test_all_shorter_and_lesser_strings_lie_outside(self):
        lengths = set()
        for states in coding.STATES:
            for contexts in ((), (0,), (1, 1), (2, 5, 2), (0, 0, 1, 1, 0)):
                for pairs in all_pairs(contexts):
                    data = encode(Table(states), pairs)
                    coded = coding.coded(states, pairs)
                    lengths.add(len(data))
                    for shorter in range(min(len(data), 3)):
                        self.assertEqual(strings_inside(coded, shorter), [])
                    if len(data) < 3:
                        self.assertEqual(strings_inside(coded, len(data))[:1], [data])
        self.assertTrue({0, 1, 2, 3} <= lengths)

    def test_all_strings_before_a_code_are_no_codes(self):
        for table, pairs in ((EVEN, ((0, 1), (1, 1)) * 5), (RARE, ((1, 1), (0, 1), (1, 3))), (own_table(), ((1, 1),))):
            data = encode(table, pairs)
            before = [(), *((k,) for k in range(256)), *(divmod(k, 256) for k in range(256 ** 2))]
            before = before[:before.index(data)]
            self.assertFalse(any(is_code(table, pairs, tried) for tried in before))
            self.assertTrue(is_code(table, pairs, data))

    def test_is_short(self):
        for table, _, pairs in samples():
            self.assertLessEqual(len(encode(table, pairs)), (doublings(table, pairs) + 8) // 8)

    def test_4000_pairs(self):
        for table, states in ((own_table(), coding.OWN_STATES), (RARE, ((1, 0, 0, 0),))):
            for pairs in (coding.some_pairs(4000, 3), ((1, 0),) * 4000):
                data = encode(table, pairs)
                self.assertTrue(is_code(table, pairs, data))
                self.same(decode(table, data, tuple(context for _, context in pairs)), tuple(bit for bit, _ in pairs))
                least, behind = coding.coded(states, pairs).ends()
                # No number with fewer bytes, and no lesser one with as many, lies in the interval.
                short = 256 ** (len(data) - 1)
                self.assertGreaterEqual(Fraction(-(-least.numerator * short // least.denominator), short), behind)
                self.assertLess(coding.number_of(data) - Fraction(1, 256 ** len(data)), least)


class DecodeTest(PressTest):
    def test_written_out(self):
        self.same(decode(own_table(), (72,), (5, 5)), (0, 1))
        self.same(decode(own_table(), (), (0, 0, 0)), (0, 0, 0))
        self.same(decode(own_table(), (128,), (31,)), (1,))
        self.same(decode(own_table(), (127, 255, 255, 255), (31,)), (0,))
        self.same(decode(own_table(), (255,), ()), ())

    def test_decodes_what_was_encoded(self):
        for table, _, pairs in samples():
            bits = tuple(bit for bit, _ in pairs)
            contexts = tuple(context for _, context in pairs)
            self.same(decode(table, encode(table, pairs), contexts), bits)
            self.same(decode(table, (*encode(table, pairs), 0, 0, 0), contexts), bits)

    def test_any_bytes(self):
        for number, states in enumerate(coding.STATES):
            for count in (0, 1, 2, 5, 9):
                data = coding.some_bytes(count, number)
                contexts = tuple(context for _, context in coding.some_pairs(60, number + count))
                bits = decode(Table(states), data, contexts)
                self.same(bits, tuple(coding.decoded(coding.Coding(states), coding.number_of(data), contexts)))
                self.assertIs(is_code(Table(states), tuple(zip(bits, contexts)), data), True)

    def test_zeros_at_the_end_change_nothing(self):
        for seed in range(8):
            data = coding.some_bytes(4, seed)
            contexts = tuple(context for _, context in coding.some_pairs(100, seed))
            bits = decode(own_table(), data, contexts)
            self.same(decode(own_table(), (*data, 0), contexts), bits)
            self.same(decode(own_table(), data + (0,) * 3996, contexts), bits)

    def test_4000_bytes_and_4000_contexts(self):
        data = coding.some_bytes(4000, 1)
        contexts = tuple(context for _, context in coding.some_pairs(4000, 2))
        for table in (own_table(), RARE, EVEN):
            bits = decode(table, data, contexts)
            self.same(len(bits), 4000)
            self.assertTrue(is_code(table, tuple(zip(bits, contexts)), data))
        self.same(decode(EVEN, data, (0,) * 4000),
                  tuple(byte >> place & 1 for byte in data[:500] for place in range(7, -1, -1)))

    def test_wrong_arguments(self):
        self.check_order(decode, [own_table(), (1, 2), (0, 31)], [WRONG_TABLES, WRONG_BYTES, WRONG_CONTEXTS])


class IsCodeTest(PressTest):
    def test_written_out(self):
        pairs = ((0, 5), (1, 5))
        self.assertIs(is_code(own_table(), pairs, (72,)), True)
        self.assertIs(is_code(own_table(), pairs, (71, 255, 255)), False)
        self.assertIs(is_code(own_table(), pairs, (127, 255)), True)
        self.assertIs(is_code(own_table(), pairs, (128,)), False)
        self.assertIs(is_code(own_table(), pairs, (72, 0, 0)), True)
        self.assertIs(is_code(own_table(), pairs, ()), False)
        self.assertIs(is_code(own_table(), (), ()), True)
        self.assertIs(is_code(own_table(), (), (255,) * 4000), True)

    def test_against_the_reference(self):
        for table, states, pairs in samples():
            least, behind = coding.coded(states, pairs).ends()
            for seed in range(6):
                start = coding.first_bytes(least, seed) if seed % 2 else coding.shortest(least, behind)
                data = (*start, *coding.some_bytes(seed, seed))
                self.assertIs(is_code(table, pairs, data), least <= coding.number_of(data) < behind)

    def test_ends_of_the_interval(self):
        for table, states, pairs in samples():
            coded = coding.coded(states, pairs)
            least, behind = coded.ends()
            count = coded.doublings // 8 + 3
            self.assertTrue(is_code(table, pairs, coding.first_bytes(least, count)))
            self.assertTrue(is_code(table, pairs, coding.first_bytes(behind - Fraction(1, 256 ** count), count)))
            if behind < 1:
                self.assertFalse(is_code(table, pairs, coding.first_bytes(behind, count)))
            if least > 0:
                outside = coding.first_bytes(least - Fraction(1, 256 ** count), count)
                self.assertFalse(is_code(table, pairs, outside))

    def test_wrong_arguments(self):
        self.check_order(is_code, [own_table(), GOOD_PAIRS, (1, 2)], [WRONG_TABLES, WRONG_PAIRS, WRONG_BYTES])


class SettledTest(PressTest):
    def test_written_out(self):
        self.same(settled(own_table(), ()), ())
        self.same(settled(own_table(), ((1, 1),)), ())
        self.same(settled(EVEN, ((1, 1),) * 7), ())
        self.same(settled(EVEN, ((1, 1),) * 8), (255,))
        self.same(settled(EVEN, ((1, 1), (0, 2)) * 9), (170, 170))
        self.same(settled(EVEN, ((0, 1),) * 16), (0, 0))

    def test_against_the_reference(self):
        for table, states, pairs in samples():
            self.same(settled(table, pairs), coding.common_start(*coding.coded(states, pairs).ends()))

    def test_last_number_begins_otherwise(self):
        # Of the last units of the interval all but one begin with the byte 165.
        table = Table(((21, 1, 1, 0), (14, 2, 2, 0), (10, 2, 2, 0)))
        pairs = ((0, 3), (1, 3), (0, 3), (1, 3), (1, 3), (0, 3))
        coded = coding.coded(table.states, pairs)
        self.assertEqual([coded.doublings, (coded.low + coded.width) % 65536], [8, 1])
        self.same(settled(table, pairs), ())

    def test_does_not_depend_on_what_follows(self):
        for table, _, pairs in samples():
            start = settled(table, pairs)
            for seed in range(5):
                longer = (*pairs, *coding.some_pairs(25, seed))
                self.same(settled(table, longer)[:len(start)], start)
                self.same((*encode(table, longer), *((0,) * len(start)))[:len(start)], start)

    def test_is_the_longest(self):
        for table, states, pairs in samples():
            least, behind = coding.coded(states, pairs).ends()
            count = len(settled(table, pairs)) + 1
            # A number just below the end begins otherwise than the least one.
            last = behind - Fraction(1, 2 ** 40000)
            self.assertNotEqual(coding.first_bytes(least, count), coding.first_bytes(last, count))

    def test_4000_pairs(self):
        for pairs in (coding.some_pairs(4000, 3), ((1, 0),) * 4000):
            self.same(settled(RARE, pairs), coding.common_start(*coding.coded(((1, 0, 0, 0),), pairs).ends()))


if __name__ == "__main__":
    unittest.main()
