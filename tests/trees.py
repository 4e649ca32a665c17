"""Tag trees once more, word by word from the document; and trees and queries to try.

The tests compare the package with it. It shares nothing with the package.
"""

import itertools
import random


def levels_of(values):
    """The levels as dicts by (row, column), level 0 first."""
    level = {(i, j): value for i, row in enumerate(values) for j, value in enumerate(row)}
    levels = [level]
    while len(level) > 1:
        above = {}
        for (i, j), value in level.items():
            place = (i // 2, j // 2)
            above[place] = min(value, above.get(place, value))
        levels.append(above)
        level = above
    return levels


class Query:
    """Bounds and open nodes; asks answer(level, place, bound) for each bit: whether the value is the bound."""

    def __init__(self, height, width):
        self.levels = levels_of(((0,) * width,) * height)
        self.bounds = [dict.fromkeys(level, 0) for level in self.levels]
        self.open = [dict.fromkeys(level, True) for level in self.levels]

    def ask(self, row, column, threshold, answer):
        before = 0
        for level in reversed(range(len(self.levels))):
            place = (row // 2 ** level, column // 2 ** level)
            bounds = self.bounds[level]
            bounds[place] = max(bounds[place], before)
            while self.open[level][place] and bounds[place] < threshold:
                if answer(level, place, bounds[place]) == 1:
                    self.open[level][place] = False
                else:
                    bounds[place] += 1
            before = bounds[place]


def written(values, queries):
    """The list of the tuples of the bits of the queries."""
    levels = levels_of(values)
    query = Query(len(values), len(values[0]))
    result = []
    for row, column, threshold in queries:
        bits = []

        def answer(level, place, bound):
            bits.append(1 if levels[level][place] == bound else 0)
            return bits[-1]

        query.ask(row, column, threshold, answer)
        result.append(tuple(bits))
    return result


def all_bits(values, queries):
    """The bits of the queries, one behind another."""
    return tuple(itertools.chain(*written(values, queries)))


def read_count(shape, queries, bits):
    """How many bits queries read, or None if they end too early."""
    query = Query(*shape)
    left = list(bits)

    def answer(*_):
        return left.pop(0)

    try:
        for row, column, threshold in queries:
            query.ask(row, column, threshold, answer)
    except IndexError:
        return None
    return len(bits) - len(left)


def all_values(shape, numbers):
    """All rows of this shape with values among some numbers."""
    height, width = shape
    for values in itertools.product(numbers, repeat=height * width):
        yield tuple(values[width * k:width * (k + 1)] for k in range(height))


def limits_by_bits(shape, queries, numbers):
    """For each sequence of bits that some values write, the rows of the least and the greatest value of each leaf."""
    result = {}
    for values in all_values(shape, numbers):
        bits = all_bits(values, queries)
        before = result.get(bits, tuple(tuple((30, 0) for _ in row) for row in values))
        result[bits] = tuple(tuple((min(value, least), max(value, most)) for value, (least, most) in zip(row, limits))
                             for row, limits in zip(values, before))
    return result


def all_queries(shape, thresholds):
    """All queries with some thresholds."""
    return [(i, j, t) for i in range(shape[0]) for j in range(shape[1]) for t in thresholds]


def some_values(seed):
    """Values of a tree, of one value to 8 by 8."""
    source = random.Random(100 + seed)
    height, width = source.choice(((1, 1), (1, 8), (8, 1), (8, 8), (3, 5), (5, 3), (2, 2), (7, 6), (1, 2)))
    numbers = source.choice(((0, 30), (0, 1, 2, 3), (5,), tuple(range(31)), (29, 30), (7, 8, 8, 9)))
    return tuple(tuple(source.choice(numbers) for _ in range(width)) for _ in range(height))


def some_queries(shape, count, seed):
    """Queries in any order, some of them asked again, with a greater and with a lesser threshold."""
    source = random.Random(200 + seed)
    thresholds = source.choice(((0, 30), (1, 2, 3, 4), tuple(range(31)), (8, 9)))
    result = []
    for _ in range(count):
        result.append((source.randrange(shape[0]), source.randrange(shape[1]), source.choice(thresholds)))
        if source.random() < 0.2:
            result.append(result[-1])
    return tuple(result[:count])
