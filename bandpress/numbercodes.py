"""Codes of numbers: bits that tell by themselves where they end."""

from bandpress.bitstrings import bit_at, check_bit_position, check_bits
from bandpress.checks import is_integer
from bandpress.errors import BadNumber


def number_bits(number):
    """The bits of an integer from 0 on: how many digits follow, in ones, a zero, and the digits."""
    if not is_integer(number) or number < 0:
        raise BadNumber("a number is an integer from 0 on")
    count = (number + 1).bit_length() - 1
    digits = [((number + 1) >> place) & 1 for place in reversed(range(count))]
    return (*([1] * count), 0, *digits)


def read_number(bits, position):
    """The number whose bits begin at a position, and the position behind them."""
    check_bits(bits)
    check_bit_position(position, bits)
    count = 0
    while bit_at(bits, position) == 1:
        count += 1
        position += 1
    position += 1
    number = 1
    for _ in range(count):
        number = 2 * number + bit_at(bits, position)
        position += 1
    return number - 1, position
