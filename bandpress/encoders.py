"""Encoders and decoders that work bit by bit, and segment by segment; the contexts keep their states."""

from bandpress.adapting import Contexts, used_states
from bandpress.bytestrings import check_bytes
from bandpress.intervals import Interval, code_bit, shortest_code
from bandpress.pairs import check_bit, check_coded, check_context, check_contexts, check_pairs
from bandpress.pointers import Pointer, decode_bit
from bandpress.tables import check_table


class Encoder:
    """Codes bits one by one, at most 4000 in a segment."""

    def __init__(self, table):
        check_table(table)
        self._contexts = Contexts(table)
        self._interval = Interval()
        self._coded = 0

    @property
    def coded(self):
        """The number of bits since the last flush."""
        return self._coded

    @property
    def states(self):
        """The tuple of (context, state, common bit) of all contexts that were used so far, in ascending order."""
        return used_states(self._contexts)

    def put(self, bit, context):
        """Codes a bit with a context."""
        check_bit(bit)
        check_context(context)
        check_coded(self._coded + 1)
        self._code(bit, context)

    def put_all(self, *pairs):
        """Codes pairs (bit, context)."""
        check_pairs(pairs)
        check_coded(self._coded + len(pairs))
        for bit, context in pairs:
            self._code(bit, context)

    def flush(self):
        """Returns the byte string of the segment, and begins a new one."""
        data = shortest_code(self._interval)
        self._interval = Interval()
        self._coded = 0
        return data

    def _code(self, bit, context):
        """Codes a bit that was checked before."""
        code_bit(self._interval, self._contexts, bit, context)
        self._coded += 1


class Decoder:
    """Decodes bits one by one, at most 4000 of a segment."""

    def __init__(self, table):
        check_table(table)
        self._contexts = Contexts(table)
        self._pointer = Pointer(())
        self._coded = 0

    @property
    def coded(self):
        """The number of bits that were taken from this segment."""
        return self._coded

    @property
    def states(self):
        """The tuple of (context, state, common bit) of all contexts that were used so far, in ascending order."""
        return used_states(self._contexts)

    def feed(self, data):
        """Begins a segment with a byte string."""
        check_bytes(data)
        self._pointer = Pointer(data)
        self._coded = 0

    def take(self, context):
        """Returns the next bit."""
        check_context(context)
        check_coded(self._coded + 1)
        return self._decode(context)

    def take_all(self, *contexts):
        """Returns the tuple of the next bits, one for each context."""
        check_contexts(contexts)
        check_coded(self._coded + len(contexts))
        return tuple([self._decode(context) for context in contexts])

    def _decode(self, context):
        """Returns the bit for a context that was checked before."""
        self._coded += 1
        return decode_bit(self._pointer, self._contexts, context)
