"""The binary coder: intervals of sequences of bits, byte strings in them, and the bits of a byte string."""

from bandpress.adapting import Contexts
from bandpress.bytestrings import check_bytes, written_number
from bandpress.intervals import common_start, interval_of, shortest_code
from bandpress.pairs import check_contexts, check_pairs
from bandpress.pointers import Pointer, decode_bit
from bandpress.ratios import reduced
from bandpress.tables import check_table


def interval(table, pairs):
    """The least number of the interval of pairs, and its length."""
    check_coding(table, pairs)
    found = interval_of(table, pairs)
    whole = 1 << (16 + found.doublings)
    return reduced(found.low, whole), reduced(found.width, whole)


def doublings(table, pairs):
    """How often low and width are doubled while pairs are coded."""
    check_coding(table, pairs)
    return interval_of(table, pairs).doublings


def encode(table, pairs):
    """The shortest byte string whose number lies in the interval of pairs, and the least one of these."""
    check_coding(table, pairs)
    return shortest_code(interval_of(table, pairs))


def decode(table, data, contexts):
    """The bits, one for each context, whose interval holds the number of a byte string."""
    check_table(table)
    check_bytes(data)
    check_contexts(contexts)
    pointer = Pointer(data)
    adapting = Contexts(table)
    return tuple([decode_bit(pointer, adapting, context) for context in contexts])


def is_code(table, pairs, data):
    """Whether the number of a byte string lies in the interval of pairs."""
    check_coding(table, pairs)
    check_bytes(data)
    found = interval_of(table, pairs)
    # Both sides are multiplied by 256 ** len(data) and by 2 ** (16 + doublings).
    number = written_number(data) << (16 + found.doublings)
    low = found.low << (8 * len(data))
    width = found.width << (8 * len(data))
    return low <= number < low + width


def settled(table, pairs):
    """The longest byte string with which all numbers of the interval of pairs begin."""
    check_coding(table, pairs)
    return common_start(interval_of(table, pairs))


def check_coding(table, pairs):
    """Raises NotTable, BadPairs or TooMany for values that cannot be coded."""
    check_table(table)
    check_pairs(pairs)
