"""Corners, slopes and choices once more, by trying everything out; and points and blocks to try.

The tests compare the package with it. It shares nothing with the package.
"""

import itertools
import random
from fractions import Fraction


def cost(pair, slope):
    """The cost of a pair for a slope."""
    return pair[1] + slope * pair[0]


def turning_slopes(pairs):
    """The slopes from 0 on for which two pairs cost the same, ascending, and 0."""
    slopes = {Fraction(0)}
    for (rate, distortion), (other_rate, other_distortion) in itertools.combinations(pairs, 2):
        if rate != other_rate:
            slopes.add(Fraction(other_distortion - distortion, rate - other_rate))
    return sorted(slope for slope in slopes if slope >= 0)


def slopes_to_try(pairs):
    """Slopes from 0 on: all at which the order of costs changes, one between each two, and one beyond."""
    turns = turning_slopes(pairs)
    between = [(one + other) / 2 for one, other in zip(turns, turns[1:])]
    return sorted([*turns, *between, turns[-1] + 1])


def corners(pairs):
    """The pairs that are corners of a set of pairs, ascending."""
    pairs = sorted(set(pairs))
    found = set()
    for slope in slopes_to_try(pairs):
        if slope > 0:
            costs = [cost(pair, slope) for pair in pairs]
            if costs.count(min(costs)) == 1:
                found.add(pairs[costs.index(min(costs))])
    return sorted(found)


def slopes_of(points, index):
    """The Fractions (least, most) of the slopes for which a point costs least; None for no slope, or for no end."""
    good = [slope for slope in slopes_to_try(points)
            if all(cost(points[index], slope) <= cost(pair, slope) for pair in points)]
    if not good:
        return None
    return good[0], None if good[-1] > turning_slopes(points)[-1] else good[-1]


def choices(blocks):
    """All choices, ascending."""
    return itertools.product(*(range(len(points)) for points in blocks))


def total(blocks, choice):
    """The total of a choice."""
    chosen = [points[index] for points, index in zip(blocks, choice)]
    return sum(rate for rate, _ in chosen), sum(distortion for _, distortion in chosen)


def some_points(seed):
    """Points of a block: on a line, with distortions that rise, fall and stay, or of any kind."""
    source = random.Random(50 + seed)
    count = source.choice((1, 2, 3, 4, 6, 12))
    most = source.choice((12, 30, 1000))
    rates = [0, *sorted(source.sample(range(1, most + 1), count - 1))]
    kind = seed % 4
    if kind == 0:
        distortions = [source.randint(0, most) for _ in rates]
    elif kind == 1:
        distortions = sorted((source.randint(0, most) for _ in rates), reverse=True)
    elif kind == 2:
        distortions = [max(0, 1000 - source.choice((1, 2, 3)) * rate) for rate in rates]
    else:
        distortions = [source.choice((3, 4, 5)) for _ in rates]
    return tuple(zip(rates, distortions))


def some_blocks(seed):
    """1 to 4 tuples of points, with few points each, some of them alike."""
    source = random.Random(900 + seed)
    result = []
    for _ in range(source.randint(1, 4)):
        if result and source.random() < 0.4:
            result.append(source.choice(result))
        else:
            result.append(some_points(source.randrange(10 ** 6))[:source.randint(1, 6)])
    return tuple(result)


def alike_blocks(seed):
    """2 to 4 tuples of points with small numbers, so that many choices have the same totals."""
    source = random.Random(700 + seed)
    return tuple(tuple((rate, source.randint(0, 3)) for rate in (0, *sorted(source.sample(range(1, 6), 3))))
                 for _ in range(source.randint(2, 4)))


LINE = tuple((rate, 1000 - 50 * rate) for rate in range(0, 12))
POINTS = (
    ((0, 0),), ((0, 1000),), ((0, 5), (1, 5)), ((0, 5), (1, 6)), ((0, 5), (1, 4)), ((0, 1000), (1000, 0)),
    ((0, 0), (1000, 1000)), LINE, ((0, 10), (1, 10), (2, 3), (3, 3), (4, 5), (5, 2)), ((0, 9), (2, 5), (4, 1)),
    ((0, 9), (2, 6), (4, 1)), ((0, 9), (2, 4), (4, 1)), ((0, 7), (1, 7), (2, 0), (3, 0), (4, 0)),
    ((0, 3), (5, 1000), (6, 2), (999, 2), (1000, 1)),
    *(some_points(seed) for seed in range(60)),
)
BLOCKS = (
    (((0, 5),),), (((0, 5),),) * 6, (LINE[:4],) * 4, (((0, 1000), (1000, 0)),) * 6,
    (((0, 9), (2, 5), (4, 1)), ((0, 8), (1, 6), (2, 5), (3, 5))),
    (((0, 4), (1, 2), (2, 1)), ((0, 4), (2, 0)), ((0, 3), (1, 1))),
    (((0, 10), (1, 10), (2, 3), (3, 3), (4, 5)), ((0, 1), (5, 9)), ((0, 7), (7, 0))),
    *(some_blocks(seed) for seed in range(40)),
    *(alike_blocks(seed) for seed in range(25)),
)
