"""Moments of the high filter of a kernel: which polynomials it takes to 0, and where a span has room for it."""

from bandpress.checks import is_within
from bandpress.errors import BadNumber
from bandpress.filters import filters
from bandpress.kernels import check_kernel
from bandpress.ratios import plus, times
from bandpress.spans import check_signal_span


def moment(kernel, power):
    """The sum of weight * offset ** power over the high filter."""
    check_kernel(kernel)
    if not is_within(power, 0, 30):
        raise BadNumber("power is an integer from 0 to 30")
    return high_moment(kernel, power)


def vanishing(kernel):
    """The least power whose moment is not 0: polynomials of a degree below it become 0."""
    check_kernel(kernel)
    power = 0
    # This ends, because the moments of a filter that is not 0 are not all 0.
    while high_moment(kernel, power) == (0, 1):
        power += 1
    return power


def inner(kernel, span):
    """The odd positions of a span at which the high filter reads no position beyond the ends."""
    check_kernel(kernel)
    check_signal_span(span)
    start, stop = span
    _, high = filters(kernel)
    first, last = high[0][0], high[-1][0]
    return tuple([position for position in range(start, stop)
                  if position & 1 == 1 and position + first >= start and position + last < stop])


def high_moment(kernel, power):
    """The moment of a kernel, for any power from 0 on."""
    _, high = filters(kernel)
    total = (0, 1)
    for offset, weight in high:
        total = plus(total, times(weight, (to_the_power(offset, power), 1)))
    return total


def to_the_power(base, power):
    """An integer to a power from 0 on; 0 to the power 0 is 1."""
    result = 1
    for _ in range(power):
        result *= base
    return result
