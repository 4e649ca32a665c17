"""The transform once more, word by word from the document, with dicts of positions and Fractions.

The tests compare the package with it. It shares nothing with the package.
"""

import math
from fractions import Fraction


def mirror(position, first, last):
    """The position that stands for a position beyond the ends: mirrored as often as necessary."""
    while position < first or position > last:
        position = 2 * first - position if position < first else 2 * last - position
    return position


def addend(total, shift, exact):
    """What a step adds for the weighted sum that it has read."""
    if exact:
        return Fraction(total) / 2 ** shift
    half = 0 if shift == 0 else 2 ** (shift - 1)
    return math.floor(Fraction(total + half, 2 ** shift))


def after_steps(steps, start, samples, count, exact=False):
    """The samples after the first `count` steps."""
    x = {start + k: sample for k, sample in enumerate(samples)}
    if len(x) < 2:
        return tuple(samples)
    for number in range(count):
        x = one_step(steps[number], number, x, 1, exact)
    return tuple(x[position] for position in sorted(x))


def before_steps(steps, start, samples, exact=False):
    """The samples from which all the steps lead to these."""
    x = {start + k: sample for k, sample in enumerate(samples)}
    if len(x) < 2:
        return tuple(samples)
    for number in reversed(range(len(steps))):
        x = one_step(steps[number], number, x, -1, exact)
    return tuple(x[position] for position in sorted(x))


def one_step(step, number, x, sign, exact):
    """All samples, by their positions, after a step was added or subtracted."""
    weights, shift = step
    first, last = min(x), max(x)
    result = dict(x)
    for i in x:
        if i % 2 != number % 2:
            total = 0
            for j, weight in enumerate(weights):
                left = x[mirror(i - 1 - 2 * j, first, last)]
                right = x[mirror(i + 1 + 2 * j, first, last)]
                total += weight * (left + right)
            result[i] = x[i] + sign * addend(total, shift, exact)
    return result


def bands(start, samples):
    """The bands of samples that stand at the positions from start on."""
    positions = list(zip(range(start, start + len(samples)), samples))
    low = tuple(sample for position, sample in positions if position % 2 == 0)
    high = tuple(sample for position, sample in positions if position % 2 == 1)
    return (math.ceil(Fraction(start, 2)), low), (math.floor(Fraction(start, 2)), high)


def analyzed(steps, start, samples, exact=False):
    """The bands of a signal."""
    return bands(start, after_steps(steps, start, samples, len(steps), exact))


def as_ratio(number):
    """The ratio of an integer or a Fraction."""
    number = Fraction(number)
    return number.numerator, number.denominator


def as_ratios(numbers):
    """The tuple of the ratios of integers or Fractions."""
    return tuple(as_ratio(number) for number in numbers)


def as_fractions(ratios):
    """The list of the Fractions of ratios."""
    return [Fraction(*ratio) for ratio in ratios]


def split(steps, top, left, rows):
    """The bands (ll, hl, lh, hh) of a plane: each row, then each column of the low bands, then of the high ones."""
    halves = [analyzed(steps, left, row) for row in rows]
    (low_left, _), (high_left, _) = bands(left, ())
    ll, lh = split_columns(steps, top, low_left, [low[1] for low, _ in halves])
    hl, hh = split_columns(steps, top, high_left, [high[1] for _, high in halves])
    return ll, hl, lh, hh


def split_columns(steps, top, left, rows):
    """The planes of the low and of the high bands of columns."""
    (low_top, low_rows), (high_top, high_rows) = bands(top, rows)
    low = [[None] * len(row) for row in low_rows]
    high = [[None] * len(row) for row in high_rows]
    for k in range(len(rows[0]) if rows else 0):
        (_, evens), (_, odds) = analyzed(steps, top, [row[k] for row in rows])
        for row, sample in zip(low, evens):
            row[k] = sample
        for row, sample in zip(high, odds):
            row[k] = sample
    return (low_top, left, tuple(map(tuple, low))), (high_top, left, tuple(map(tuple, high)))


def band_indexes(span, levels):
    """The list of the indexes of each band, band 0 first."""
    low = list(range(*span))
    high_bands = []
    for _ in range(levels):
        high_bands.append([(i - 1) // 2 for i in low if i % 2 == 1])
        low = [i // 2 for i in low if i % 2 == 0]
    return [low, *reversed(high_bands)]


def composed(steps, span, levels, coefficients):
    """The Fractions that exact synthesis makes of a dict of coefficients by places (band, index)."""
    spans = [list(range(*span))]
    for _ in range(levels):
        spans.append([i // 2 for i in spans[-1] if i % 2 == 0])
    low = [Fraction(coefficients.get((0, index), 0)) for index in spans[levels]]
    for band in range(1, levels + 1):
        positions = spans[levels - band]
        evens = iter(low)
        mixed = [next(evens) if i % 2 == 0 else Fraction(coefficients.get((band, (i - 1) // 2), 0)) for i in positions]
        low = list(before_steps(steps, positions[0], mixed, True)) if positions else []
    return low


def filter_of(steps, parity):
    """The filter for positions of a parity, as a dict: the answers at one position to single samples 1."""
    middle = 30 + parity
    result = {}
    for position in range(middle - 14, middle + 15):
        samples = [Fraction(int(i == position)) for i in range(62)]
        weight = after_steps(steps, 0, samples, len(steps), True)[middle]
        if weight != 0:
            result[position - middle] = weight
    return result


def dual_of(steps, parity):
    """What synthesis makes of one coefficient 1 at a position of a parity, as a dict by offsets."""
    middle = 30 + parity
    samples = before_steps(steps, 0, [Fraction(int(i == middle)) for i in range(62)], True)
    return {i - middle: sample for i, sample in enumerate(samples) if sample != 0}
