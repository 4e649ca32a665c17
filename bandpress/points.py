"""Points (rate, distortion) of blocks, and slopes that tell how much distortion one unit of rate is worth."""

from bandpress.checks import is_tuple, is_within
from bandpress.errors import BadPoints, BadSlope
from bandpress.ratios import is_ratio

GREATEST = 1000


def check_points(value, block):
    """Raises BadPoints for a value that is not the points of a block, which has the number `block`."""
    if not is_tuple(value, 1, 12):
        raise BadPoints(block, None)
    least = 0
    for index, pair in enumerate(value):
        if not is_point(pair, least) or index == 0 and pair[0] > 0:
            raise BadPoints(block, index)
        least = pair[0] + 1


def is_point(value, least):
    """Whether a value is a pair (rate, distortion) with a rate from least on."""
    return is_tuple(value, 2, 2) and is_within(value[0], least, GREATEST) and is_within(value[1], 0, GREATEST)


def check_blocks(value):
    """Raises BadPoints for a value that is not 1 to 6 tuples of points."""
    if not is_tuple(value, 1, 6):
        raise BadPoints(None, None)
    for block, points in enumerate(value):
        check_points(points, block)


def is_slope(value):
    """Whether a value is a ratio that is not negative."""
    return is_ratio(value) and value[0] >= 0


def check_slope(value):
    """Raises BadSlope for a value that is not a slope."""
    if not is_slope(value):
        raise BadSlope("a slope is a ratio that is not negative")


def costs_of(points, slope):
    """The list of the costs of points for a slope, multiplied by the denominator of the slope."""
    above, below = slope
    return [distortion * below + rate * above for rate, distortion in points]
