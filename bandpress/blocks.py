"""Blocks: rows of coefficients, whose sizes are coded in planes of binary digits."""

from bandpress.checks import is_integer, is_rows
from bandpress.errors import BadBlock
from bandpress.shapes import LONGEST_SIDE

MOST_PLANES = 32


def planes_of(block):
    """The number of bit planes of a block."""
    check_block(block)
    return plane_count(block)


def pass_count(block):
    """The number of passes of a block."""
    check_block(block)
    return passes_for(plane_count(block))


def is_coefficient(value):
    """Whether a value is an integer less than 2 ** 32 in size."""
    return is_integer(value) and abs(value).bit_length() <= MOST_PLANES


def check_block(value):
    """Raises BadBlock for a value that is not a block."""
    if not is_rows(value, LONGEST_SIDE, is_coefficient):
        raise BadBlock("a block is 1 to 8 rows of 1 to 8 integers less than 2 ** 32 in size")


def plane_count(block):
    """The number of binary digits of the greatest size of a coefficient."""
    return max([abs(coefficient).bit_length() for row in block for coefficient in row])


def passes_for(planes):
    """The number of passes of a block with so many planes."""
    if planes == 0:
        return 0
    return 3 * planes - 2
