"""Corners of points: those that cost less than all others for some slope."""

from bandpress.checks import is_within
from bandpress.errors import BadChoice
from bandpress.points import check_points
from bandpress.ratios import is_less, reduced


def hull(points):
    """The ascending indexes of the points that are corners."""
    check_points(points, 0)
    return corner_indexes(points)


def edges(points):
    """The pairs (rise of the rate, drop of the distortion) between neighboring corners."""
    check_points(points, 0)
    return corner_edges(points)


def slopes_of(points, index):
    """The least and the greatest slope for which no point costs less than one, or None if there is no such slope."""
    check_points(points, 0)
    if not is_within(index, 0, len(points) - 1):
        raise BadChoice("there is no point with this index")
    return least_and_most(points, index)


def least_and_most(points, index):
    """The slopes of `slopes_of`, for points that were checked before."""
    rate, distortion = points[index]
    least, most = (0, 1), None
    for other_rate, other_distortion in points:
        if other_rate > rate:
            bound = reduced(distortion - other_distortion, other_rate - rate)
            least = bound if is_less(least, bound) else least
        elif other_rate < rate:
            bound = reduced(other_distortion - distortion, rate - other_rate)
            most = bound if most is None or is_less(bound, most) else most
    if most is not None and is_less(most, least):
        return None
    return least, most


def corner_indexes(points):
    """The tuple of the indexes of the corners of points that were checked before."""
    return tuple([index for index in range(len(points)) if is_corner(points, index)])


def is_corner(points, index):
    """Whether a point is a corner: no point costs less than it for two different slopes."""
    found = least_and_most(points, index)
    return found is not None and found[0] != found[1]


def corner_edges(points):
    """The tuple of the edges of points that were checked before."""
    corners = [points[index] for index in corner_indexes(points)]
    return tuple([(later[0] - earlier[0], earlier[1] - later[1]) for earlier, later in zip(corners, corners[1:])])
