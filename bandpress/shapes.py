"""Shapes (height, width) of blocks and of the values of tag trees."""

from bandpress.checks import is_tuple, is_within
from bandpress.errors import BadShape

LONGEST_SIDE = 8


def check_shape(value):
    """Raises BadShape for a value that is not a tuple of two integers from 1 to 8."""
    if not is_tuple(value, 2, 2) or not all([is_within(side, 1, LONGEST_SIDE) for side in value]):
        raise BadShape("a shape is a tuple of a height and a width from 1 to 8")
