"""Codes of numbers: bits that tell by themselves where they end."""

from bandpress.bitstrings import HeardBits, check_bit_position, check_bits
from bandpress.checks import is_integer
from bandpress.errors import BadNumber


def number_bits(number):
    """The bits of an integer from 0 on: how many digits follow, in ones, a zero, and the digits."""
    if not is_integer(number) or number < 0:
        raise BadNumber("a number is an integer from 0 on")
    count = (number + 1).bit_length() - 1
    digits = [((number + 1) >> place) & 1 for place in reversed(range(count))]
    return (*([1] * count), 0, *digits)


def read_number(bits, position):
    """The number whose bits begin at a position, and the position behind them."""
    check_bits(bits)
    check_bit_position(position, bits)
    source = HeardBits(bits, position)
    number = number_from(source)
    return number, source.behind


def number_from(source):
    """The number whose bits come next from a source of bits."""
    count = 0
    while source.bit() == 1:
        count += 1
    number = 1
    for _ in range(count):
        number = 2 * number + source.bit()
    return number - 1
