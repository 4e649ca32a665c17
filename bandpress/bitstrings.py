"""Tuples of bits that are read bit by bit from a position on."""

from bandpress.checks import first_wrong, is_bit, is_tuple, is_within
from bandpress.errors import BadBits, BadPosition

MOST_BITS = 4000


def check_bits(value):
    """Raises BadBits for a value that is not a tuple of at most 4000 bits."""
    if not is_tuple(value, 0, MOST_BITS):
        raise BadBits(None)
    wrong = first_wrong(value, is_bit)
    if wrong is not None:
        raise BadBits(wrong)


def check_bit_position(value, bits):
    """Raises BadPosition for a value that is not a position in bits, or the one behind them."""
    if not is_within(value, 0, len(bits)):
        raise BadPosition("a position is an integer from 0 to the number of bits")


def bit_at(bits, position):
    """The bit at a position; raises BadBits with the number of bits if they end before it."""
    if position >= len(bits):
        raise BadBits(len(bits))
    return bits[position]
