"""Tuples of bits that are read bit by bit from a position on."""

from bandpress.checks import first_wrong, is_bit, is_tuple, is_within
from bandpress.errors import BadBits, BadPosition

MOST_BITS = 4000


class HeardBits:
    """Takes bits from a tuple, from a position on, and keeps the position behind those taken as `behind`."""

    def __init__(self, bits, position):
        self._bits = bits
        self.behind = position

    def bit(self):
        """The next bit; raises BadBits with the number of bits if there is none."""
        if self.behind >= len(self._bits):
            raise BadBits(len(self._bits))
        self.behind += 1
        return self._bits[self.behind - 1]

    def value_is(self, node, bound):
        """Whether the value of a node of a tag tree is a bound: the next bit tells it."""
        return self.bit() == 1


def check_bits(value):
    """Raises BadBits for a value that is not a tuple of at most 4000 bits."""
    if not is_tuple(value, 0, MOST_BITS):
        raise BadBits(None)
    wrong = first_wrong(value, is_bit)
    if wrong is not None:
        raise BadBits(wrong)


def check_bit_position(value, bits):
    """Raises BadPosition for a value that is not a position in bits, or the one behind them."""
    if not is_within(value, 0, len(bits)):
        raise BadPosition("a position is an integer from 0 to the number of bits")
