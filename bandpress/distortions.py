"""Distortions: how far the middles of the ranges that are known of a block are away from its coefficients."""

from bandpress.blocks import is_coefficient, pass_count
from bandpress.cells import ranges_of
from bandpress.checks import is_rows, is_tuple
from bandpress.errors import BadRanges
from bandpress.scans import BlockBits, cells_of, code_pass
from bandpress.shapes import LONGEST_SIDE


def middles(ranges):
    """The rows of the middles of rows of ranges."""
    if not is_rows(ranges, LONGEST_SIDE, is_range):
        raise BadRanges("ranges are 1 to 8 rows of 1 to 8 tuples (least, most)")
    return middles_of(ranges)


def pass_distortions(block):
    """The sum of the squared differences to the middles, for each number of passes from 0 on."""
    count = pass_count(block)
    cells = cells_of(block)
    result = [distance(block, middles_of(ranges_of(cells)))]
    for number in range(count):
        code_pass(cells, number, BlockBits(block))
        result.append(distance(block, middles_of(ranges_of(cells))))
    return tuple(result)


def is_range(value):
    """Whether a value is a tuple (least, most) of integers less than 2 ** 32 in size."""
    if not is_tuple(value, 2, 2) or not is_coefficient(value[0]) or not is_coefficient(value[1]):
        return False
    return value[0] <= value[1]


def middles_of(ranges):
    """The rows of the middles of rows of ranges that were checked before."""
    return tuple([tuple([middle(least, most) for least, most in row]) for row in ranges])


def middle(least, most):
    """The middle of a range, rounded toward 0; it is 0 if the range holds 0."""
    if least > 0:
        return (least + most) // 2
    if most < 0:
        return -((-least - most) // 2)
    return 0


def distance(block, rows):
    """The sum of the squared differences between a block and rows of the same shape."""
    return sum([(one - other) * (one - other) for row, others in zip(block, rows) for one, other in zip(row, others)])
