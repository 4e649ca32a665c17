"""Points 19 and 20: encoders and decoders that work bit by bit, and segment by segment."""

import unittest

from bandpress.coder import decode, encode
from bandpress.encoders import Decoder, Encoder
from bandpress.errors import BadBit, BadBytes, BadContext, BadContexts, BadPairs, NotTable, TooMany
from bandpress.tables import Table, own_table
from tests import coding
from tests.helpers import NOT_BITS, NOT_BYTES, NOT_CONTEXTS, NOT_PAIRS, NOT_TABLES, PressTest
from tests.helpers import faults


def put_each(encoder, pairs):
    """Puts pairs one by one."""
    for bit, context in pairs:
        encoder.put(bit, context)


class EncoderTest(PressTest):
    def test_begins_with_nothing(self):
        encoder = Encoder(own_table())
        self.same(encoder.coded, 0)
        self.same(encoder.states, ())
        self.same(encoder.flush(), ())
        self.same(encoder.coded, 0)

    def test_written_out(self):
        encoder = Encoder(own_table())
        self.assertIsNone(encoder.put(0, 5))
        self.same(encoder.states, ((5, 1, 0),))
        self.assertIsNone(encoder.put_all((1, 5), (1, 2)))
        self.same(encoder.coded, 3)
        # State 0 alone flips the common bit.
        self.same(encoder.states, ((2, 0, 1), (5, 0, 0)))

    def test_first_segment_is_that_of_encode(self):
        for number, states in enumerate(coding.STATES):
            for count in (0, 1, 5, 60):
                pairs = coding.some_pairs(count, number)
                one, other = Encoder(Table(states)), Encoder(Table(states))
                put_each(one, pairs)
                other.put_all(*pairs)
                self.same([one.coded, other.coded], [count, count])
                self.same(one.states, other.states)
                self.same(one.flush(), encode(Table(states), pairs))
                self.same(other.flush(), encode(Table(states), pairs))

    def test_contexts_keep_their_states_from_segment_to_segment(self):
        for number, states in enumerate(coding.STATES):
            encoder, expected = Encoder(Table(states)), coding.Coding(states)
            for count in (7, 0, 31, 1, 100):
                pairs = coding.some_pairs(count, number + count)
                for bit, context in pairs:
                    expected.code(bit, context)
                encoder.put_all(*pairs[:count // 2])
                put_each(encoder, pairs[count // 2:])
                self.same(encoder.states, expected.states())
                self.same(encoder.coded, count)
                self.same(encoder.flush(), coding.shortest(*expected.ends()))
                expected.begin()
                self.same(encoder.states, expected.states())
                self.same(encoder.coded, 0)

    def test_at_most_4000_bits_in_a_segment(self):
        encoder = Encoder(own_table())
        pairs = coding.some_pairs(4000, 1)
        encoder.put_all(*pairs[:3998])
        self.refuses_to_put(encoder, 3998, [(TooMany, encoder.put_all, ((0, 0),) * 3, {"most": 4000})])
        encoder.put_all(pairs[3998])
        encoder.put(*pairs[3999])
        self.same(encoder.coded, 4000)
        self.refuses_to_put(encoder, 4000, [
            (TooMany, encoder.put, (1, 3), {"most": 4000}),
            (TooMany, encoder.put_all, ((1, 3),), {"most": 4000}),
            (BadBit, encoder.put, (2, 3), {}),
            (BadContext, encoder.put, (1, 32), {}),
            (BadPairs, encoder.put_all, ((1, 3), None), {"index": 1}),
        ])
        encoder.put_all()
        self.same(encoder.flush(), encode(own_table(), pairs))
        encoder.put(1, 3)
        self.same(encoder.coded, 1)

    def test_wrong_bits_and_contexts(self):
        encoder = Encoder(own_table())
        encoder.put_all((0, 1), (1, 2))
        refused = [(BadBit, encoder.put, (bit, context), {}) for bit in NOT_BITS for context in (0, None, 32)]
        refused += [(BadContext, encoder.put, (1, context), {}) for context in NOT_CONTEXTS]
        self.refuses_to_put(encoder, 2, refused)

    def test_wrong_pairs(self):
        encoder = Encoder(own_table())
        encoder.put_all((0, 1), (1, 2))
        refused = [(BadPairs, encoder.put_all, (pair,), {"index": 0}) for pair in NOT_PAIRS]
        refused += [(BadPairs, encoder.put_all, ((1, 31), (0, 0), pair, None), {"index": 2}) for pair in NOT_PAIRS]
        refused += [(TooMany, encoder.put_all, ((0, 0),) * 4001, {"most": 4000}),
                    (TooMany, encoder.put_all, (None,) * 4001, {"most": 4000}),
                    (BadPairs, encoder.put_all, ((0, 0),) * 3999 + (None,), {"index": 3999}),
                    (TooMany, encoder.put_all, ((0, 0),) * 3999, {"most": 4000})]
        self.refuses_to_put(encoder, 2, refused)

    def refuses_to_put(self, encoder, coded, refused):
        """Checks that wrong calls change nothing."""
        states = encoder.states
        for error, call, arguments, fields in refused:
            self.fails(error, call, *arguments, **fields)
            self.same(encoder.coded, coded)
            self.same(encoder.states, states)

    def test_refused_calls_do_not_change_the_segment(self):
        encoder = Encoder(own_table())
        encoder.put_all((0, 1), (1, 2))
        self.fails(BadPairs, encoder.put_all, (1, 2), (1, 2), (1, True), index=2)
        encoder.put(1, 2)
        self.same(encoder.flush(), encode(own_table(), ((0, 1), (1, 2), (1, 2))))

    def test_two_encoders_have_nothing_in_common(self):
        table = own_table()
        one, other = Encoder(table), Encoder(table)
        one.put_all((1, 0), (1, 1))
        self.same([other.coded, other.states, other.flush()], [0, (), ()])

    def test_wrong_table(self):
        self.check_order(Encoder, [own_table()], [faults(NotTable, NOT_TABLES)])


class DecoderTest(PressTest):
    def test_begins_with_the_empty_byte_string(self):
        decoder = Decoder(own_table())
        self.same([decoder.coded, decoder.states], [0, ()])
        self.same(decoder.take_all(0, 0, 5), (0, 0, 0))
        self.same(decoder.coded, 3)
        self.same(decoder.states, ((0, 2, 0), (5, 1, 0)))

    def test_written_out(self):
        decoder = Decoder(own_table())
        self.assertIsNone(decoder.feed((72,)))
        self.same([decoder.take(5), decoder.take(5)], [0, 1])
        self.same(decoder.states, ((5, 0, 0),))
        decoder.feed((128,))
        self.same([decoder.coded, decoder.take(5), decoder.coded], [0, 1, 1])
        self.same(decoder.states, ((5, 0, 1),))

    def test_any_bytes_in_segments(self):
        for number, states in enumerate(coding.STATES):
            decoder, expected = Decoder(Table(states)), coding.Coding(states)
            for count, many in ((0, 4), (3, 20), (1, 0), (4, 50), (0, 9), (2, 1)):
                data = coding.some_bytes(count, number)
                contexts = [context for _, context in coding.some_pairs(many, number)]
                expected.begin()
                bits = coding.decoded(expected, coding.number_of(data), contexts)
                decoder.feed(data)
                self.same(decoder.coded, 0)
                found = [*decoder.take_all(*contexts[:many // 2]), *map(decoder.take, contexts[many // 2:])]
                self.same(found, bits)
                self.same(decoder.coded, many)
                self.same(decoder.states, expected.states())

    def test_takes_what_an_encoder_put(self):
        for number, states in enumerate(coding.STATES):
            encoder, decoder = Encoder(Table(states)), Decoder(Table(states))
            for count in (3, 0, 90, 1, 17):
                pairs = coding.some_pairs(count, number + count)
                encoder.put_all(*pairs)
                decoder.feed(encoder.flush())
                self.same(decoder.take_all(*(context for _, context in pairs)), tuple(bit for bit, _ in pairs))
                self.same(decoder.states, encoder.states)

    def test_bits_beyond_the_end(self):
        for data in ((), (200,), (255, 255), (1, 2, 3)):
            decoder = Decoder(own_table())
            decoder.feed(data)
            contexts = (1, 2, 3, 4) * 100
            self.same(decoder.take_all(*contexts), decode(own_table(), data + (0,) * 1000, contexts))

    def test_at_most_4000_bits_of_a_segment(self):
        decoder = Decoder(own_table())
        decoder.feed(coding.some_bytes(300, 1))
        contexts = tuple(context for _, context in coding.some_pairs(4000, 2))
        bits = decoder.take_all(*contexts[:3999])
        self.refuses_to_take(decoder, 3999, [(TooMany, decoder.take_all, (0, 0), {"most": 4000})])
        bits += (decoder.take(contexts[-1]),)
        self.same(bits, decode(own_table(), coding.some_bytes(300, 1), contexts))
        self.same(decoder.coded, 4000)
        self.refuses_to_take(decoder, 4000, [
            (TooMany, decoder.take, (0,), {"most": 4000}),
            (TooMany, decoder.take_all, (0,), {"most": 4000}),
            (BadContext, decoder.take, (32,), {}),
            (BadContexts, decoder.take_all, (0, None), {"index": 1}),
        ])
        self.same(decoder.take_all(), ())
        decoder.feed(())
        self.same(decoder.coded, 0)
        decoder.take(0)
        self.same(decoder.coded, 1)

    def test_wrong_contexts(self):
        decoder = Decoder(own_table())
        decoder.feed((70, 80))
        decoder.take_all(1, 2)
        refused = [(BadContext, decoder.take, (context,), {}) for context in NOT_CONTEXTS]
        refused += [(BadContexts, decoder.take_all, (context,), {"index": 0}) for context in NOT_CONTEXTS]
        refused += [(BadContexts, decoder.take_all, (0, 31, context, -1), {"index": 2}) for context in NOT_CONTEXTS]
        refused += [(TooMany, decoder.take_all, (0,) * 4001, {"most": 4000}),
                    (TooMany, decoder.take_all, (None,) * 4001, {"most": 4000}),
                    (BadContexts, decoder.take_all, (0,) * 3999 + (-1,), {"index": 3999}),
                    (TooMany, decoder.take_all, (0,) * 3999, {"most": 4000})]
        self.refuses_to_take(decoder, 2, refused)

    def test_wrong_bytes(self):
        decoder = Decoder(own_table())
        decoder.feed((70, 80))
        decoder.take_all(1, 2)
        refused = [(BadBytes, decoder.feed, (value,), {"index": None}) for value in
                   (None, True, 0, "", "ab", [], [1], {}, (0,) * 4001, (None,) * 4001)]
        refused += [(BadBytes, decoder.feed, ((7, value, None),), {"index": 1}) for value in NOT_BYTES]
        self.refuses_to_take(decoder, 2, refused)

    def refuses_to_take(self, decoder, coded, refused):
        """Checks that wrong calls change nothing."""
        states = decoder.states
        for error, call, arguments, fields in refused:
            self.fails(error, call, *arguments, **fields)
            self.same(decoder.coded, coded)
            self.same(decoder.states, states)

    def test_refused_calls_do_not_change_the_segment(self):
        decoder = Decoder(own_table())
        data = (201, 3, 77)
        decoder.feed(data)
        bits = [decoder.take(1)]
        self.fails(BadContexts, decoder.take_all, 1, 1, 1, 77, index=3)
        self.fails(BadContext, decoder.take, 32)
        self.fails(BadBytes, decoder.feed, (1, 256), index=1)
        bits += decoder.take_all(*((1,) * 20))
        self.same(tuple(bits), decode(own_table(), data, (1,) * 21))

    def test_wrong_table(self):
        self.check_order(Decoder, [own_table()], [faults(NotTable, NOT_TABLES)])


if __name__ == "__main__":
    unittest.main()
