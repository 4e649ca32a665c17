"""The transform once more, word by word from the document, with dicts of positions and Fractions.

The tests compare the package with it. It shares nothing with the package.
"""

import math
from fractions import Fraction


def mirror(position, first, last):
    """The position that stands for a position beyond the ends: mirrored as often as necessary."""
    while position < first or position > last:
        position = 2 * first - position if position < first else 2 * last - position
    return position


def addend(total, shift, exact):
    """What a step adds for the weighted sum that it has read."""
    if exact:
        return Fraction(total) / 2 ** shift
    half = 0 if shift == 0 else 2 ** (shift - 1)
    return math.floor(Fraction(total + half, 2 ** shift))


def after_steps(steps, start, samples, count, exact=False):
    """The samples after the first `count` steps."""
    x = {start + k: sample for k, sample in enumerate(samples)}
    if len(x) < 2:
        return tuple(samples)
    for number in range(count):
        x = one_step(steps[number], number, x, 1, exact)
    return tuple(x[position] for position in sorted(x))


def before_steps(steps, start, samples, exact=False):
    """The samples from which all the steps lead to these."""
    x = {start + k: sample for k, sample in enumerate(samples)}
    if len(x) < 2:
        return tuple(samples)
    for number in reversed(range(len(steps))):
        x = one_step(steps[number], number, x, -1, exact)
    return tuple(x[position] for position in sorted(x))


def one_step(step, number, x, sign, exact):
    """All samples, by their positions, after a step was added or subtracted."""
    weights, shift = step
    first, last = min(x), max(x)
    result = dict(x)
    for i in x:
        if i % 2 != number % 2:
            total = 0
            for j, weight in enumerate(weights):
                left = x[mirror(i - 1 - 2 * j, first, last)]
                right = x[mirror(i + 1 + 2 * j, first, last)]
                total += weight * (left + right)
            result[i] = x[i] + sign * addend(total, shift, exact)
    return result


def bands(start, samples):
    """The bands of samples that stand at the positions from start on."""
    positions = list(zip(range(start, start + len(samples)), samples))
    low = tuple(sample for position, sample in positions if position % 2 == 0)
    high = tuple(sample for position, sample in positions if position % 2 == 1)
    return (math.ceil(Fraction(start, 2)), low), (math.floor(Fraction(start, 2)), high)


def analyzed(steps, start, samples, exact=False):
    """The bands of a signal."""
    return bands(start, after_steps(steps, start, samples, len(steps), exact))


def as_ratio(number):
    """The ratio of an integer or a Fraction."""
    number = Fraction(number)
    return number.numerator, number.denominator


def as_ratios(numbers):
    """The tuple of the ratios of integers or Fractions."""
    return tuple(as_ratio(number) for number in numbers)


def as_fractions(ratios):
    """The list of the Fractions of ratios."""
    return [Fraction(*ratio) for ratio in ratios]
