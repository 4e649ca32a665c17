"""Choices of one point for each block: by slopes, for sizes, and in layers."""

from bandpress.checks import is_tuple, is_within
from bandpress.errors import BadChoice, BadSize, BadSlopes
from bandpress.hulls import corner_edges, corner_indexes
from bandpress.points import check_blocks, check_slope, costs_of, is_slope
from bandpress.ratios import is_less, over_common, reduced


def total(blocks, choice):
    """The sum of the rates and the sum of the distortions of the chosen points."""
    check_blocks(blocks)
    check_choice(choice, blocks)
    return total_of(blocks, choice)


def merged_hull(blocks):
    """The corners of the set of the totals of all choices, in ascending order."""
    check_blocks(blocks)
    return tuple([total_of(blocks, choice) for choice in corner_choices(blocks)])


def merged_choices(blocks):
    """The choices whose totals are the corners of the merged hull, in the same order."""
    check_blocks(blocks)
    return tuple(corner_choices(blocks))


def choice_for(blocks, slope):
    """The choice of the points that cost least for a slope, and of equal ones those with the least rate."""
    check_blocks(blocks)
    check_slope(slope)
    return cheapest_choice(blocks, slope)


def shows_best(blocks, choice, slope):
    """Whether each of the chosen points costs least for a slope."""
    check_blocks(blocks)
    check_choice(choice, blocks)
    check_slope(slope)
    costs = [costs_of(points, slope) for points in blocks]
    return all([own[index] == min(own) for own, index in zip(costs, choice)])


def best_choice(blocks, size):
    """Of the choices that fit a size, the one with the least distortion, then the least rate, then the least."""
    check_blocks(blocks)
    check_size(size)
    return best_by_size(blocks, size)[size][2]


def best_totals(blocks, size):
    """The least total distortions for all sizes from 0 to a size."""
    check_blocks(blocks)
    check_size(size)
    return tuple([distortion for distortion, _, _ in best_by_size(blocks, size)])


def frontier(blocks):
    """The totals to which no other total is at least equal in rate and in distortion."""
    check_blocks(blocks)
    least = least_by_rate(blocks)
    result = []
    for rate in sorted(least):
        if result == [] or least[rate] < result[-1][1]:
            result.append((rate, least[rate]))
    return tuple(result)


def hull_choice(blocks, size):
    """The last choice of the merged hull that fits a size."""
    check_blocks(blocks)
    check_size(size)
    choices = corner_choices(blocks)
    return choices[last_that_fits(blocks, choices, size)]


def gap_bound(blocks, size):
    """How much less the least distortion for a size may be than that of the hull choice, at most."""
    check_blocks(blocks)
    check_size(size)
    choices = corner_choices(blocks)
    place = last_that_fits(blocks, choices, size)
    if place == len(choices) - 1:
        return (0, 1)
    rate, distortion = total_of(blocks, choices[place])
    next_rate, next_distortion = total_of(blocks, choices[place + 1])
    return reduced((distortion - next_distortion) * (size - rate), next_rate - rate)


def layers(blocks, slopes):
    """The choices for slopes that fall."""
    check_blocks(blocks)
    check_slopes(slopes)
    return tuple([cheapest_choice(blocks, slope) for slope in slopes])


def check_choice(value, blocks):
    """Raises BadChoice for a value that is not a tuple of the index of a point of each block."""
    if not is_tuple(value, len(blocks), len(blocks)):
        raise BadChoice("a choice has one index for each block")
    if not all([is_within(index, 0, len(points) - 1) for index, points in zip(value, blocks)]):
        raise BadChoice("a choice has indexes of points")


def check_size(value):
    """Raises BadSize for a value that is not a size."""
    if not is_within(value, 0, 400):
        raise BadSize("a size is an integer from 0 to 400")


def check_slopes(value):
    """Raises BadSlopes for a value that is not 1 to 4 slopes that fall."""
    if not is_tuple(value, 1, 4):
        raise BadSlopes(None)
    for index, slope in enumerate(value):
        if not is_slope(slope) or index > 0 and not is_less(slope, value[index - 1]):
            raise BadSlopes(index)


def total_of(blocks, choice):
    """The total of a choice that was checked before."""
    chosen = [points[index] for points, index in zip(blocks, choice)]
    return sum([rate for rate, _ in chosen]), sum([distortion for _, distortion in chosen])


def cheapest_choice(blocks, slope):
    """The choice of `choice_for`, for values that were checked before."""
    costs = [costs_of(points, slope) for points in blocks]
    # The rates ascend, so the first of equal costs has the least rate.
    return tuple([own.index(min(own)) for own in costs])


def corner_choices(blocks):
    """The list of the choices whose totals are the corners of the merged hull, in ascending order."""
    corners = [corner_indexes(points) for points in blocks]
    slopes = [[reduced(drop, rise) for rise, drop in corner_edges(points)] for points in blocks]
    result = [tuple([own[0] for own in corners])]
    for slope in falling([value for own in slopes for value in own]):
        passed = [len([value for value in own if not is_less(value, slope)]) for own in slopes]
        result.append(tuple([own[count] for own, count in zip(corners, passed)]))
    return result


def falling(ratios):
    """The list of the different ones of some ratios, the greatest first."""
    numerators, below = over_common(ratios)
    return [reduced(numerator, below) for numerator in reversed(sorted(set(numerators)))]


def last_that_fits(blocks, choices, size):
    """The place of the last choice whose total rate is not greater than a size; the rates of choices ascend."""
    return len([choice for choice in choices if total_of(blocks, choice)[0] <= size]) - 1


def best_by_size(blocks, size):
    """For each size from 0 on, the least tuple (distortion, rate, choice) of all choices that fit."""
    best = [(0, 0, ())] * (size + 1)
    # From the last block on: the best choice for the blocks behind one does not depend on the point taken there, but
    # for the room that it leaves.
    for points in reversed(blocks):
        best = [best_with_point(points, best, room) for room in range(size + 1)]
    return best


def best_with_point(points, best, room):
    """The least tuple for a room if a point of one more block comes before the best choices so far."""
    found = []
    for index, (rate, distortion) in enumerate(points):
        if rate <= room:
            rest_distortion, rest_rate, choice = best[room - rate]
            found.append((distortion + rest_distortion, rate + rest_rate, (index, *choice)))
    return min(found)


def least_by_rate(blocks):
    """A dict of the least total distortion for each total rate."""
    least = {0: 0}
    for points in blocks:
        following = {}
        for before in least:
            for rise, distortion in points:
                rate, found = before + rise, least[before] + distortion
                if rate not in following or found < following[rate]:
                    following[rate] = found
        least = following
    return least
