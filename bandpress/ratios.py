"""Ratios: tuples (numerator, denominator) in lowest terms, with a positive denominator."""

from math import gcd, lcm

from bandpress.checks import is_integer, is_tuple
from bandpress.errors import NotRatio


def ratio(numerator, denominator):
    """The ratio of two integers."""
    if not is_integer(numerator) or not is_integer(denominator):
        raise NotRatio("a ratio is made of two integers")
    if denominator == 0:
        raise NotRatio("no ratio has the denominator 0")
    return reduced(numerator, denominator)


def reduced(numerator, denominator):
    """The ratio of two integers of which the second one is known not to be 0."""
    common = gcd(numerator, denominator)
    if denominator < 0:
        common = -common
    return numerator // common, denominator // common


def is_ratio(value):
    """Whether a value is a ratio: in lowest terms, with a positive denominator."""
    if not is_tuple(value, 2, 2) or not is_integer(value[0]) or not is_integer(value[1]):
        return False
    return value[1] > 0 and gcd(value[0], value[1]) == 1


def check_ratio(value):
    """Raises NotRatio for a value that is not a ratio."""
    if not is_ratio(value):
        raise NotRatio("a ratio is a tuple of two integers in lowest terms, the second one positive")


def plus(left, right):
    """The sum of two ratios."""
    return reduced(left[0] * right[1] + right[0] * left[1], left[1] * right[1])


def times(left, right):
    """The product of two ratios."""
    return reduced(left[0] * right[0], left[1] * right[1])


def minus(value):
    """A ratio with the other sign."""
    return -value[0], value[1]


def is_less(left, right):
    """Whether a ratio is less than another one."""
    return left[0] * right[1] < right[0] * left[1]


def over_common(ratios):
    """The list of the numerators of ratios over their least common denominator, and this denominator."""
    below = 1
    for _, denominator in ratios:
        below = lcm(below, denominator)
    return [numerator * (below // denominator) for numerator, denominator in ratios], below


def ratios_over(numerators, below):
    """The ratios of numerators that have one denominator in common."""
    return tuple([reduced(numerator, below) for numerator in numerators])
