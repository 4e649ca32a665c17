"""Spans of positions, and the spans of the indexes of their even and odd positions."""

from bandpress.checks import is_tuple, is_within
from bandpress.errors import BadLevels, BadSpan


def low_span(span):
    """The span of the indexes of the even positions of a span."""
    check_span(span)
    return even_indexes(span)


def high_span(span):
    """The span of the indexes of the odd positions of a span."""
    check_span(span)
    return odd_indexes(span)


def low_span_after(span, levels):
    """The span after low_span was applied `levels` times."""
    check_span(span)
    check_levels(levels, 10)
    for _ in range(levels):
        span = even_indexes(span)
    return span


def check_span(value):
    """Raises BadSpan for a value that is not a span."""
    if not is_span(value):
        raise BadSpan("a span is a tuple of two integers from -1000 to 1000 that do not fall")


def is_span(value):
    """Whether a value is a span."""
    if not is_tuple(value, 2, 2):
        return False
    start, stop = value
    return is_within(start, -1000, 1000) and is_within(stop, -1000, 1000) and start <= stop


def check_levels(value, most):
    """Raises BadLevels for a value that is not an integer from 0 to most."""
    if not is_within(value, 0, most):
        raise BadLevels("levels is not an integer, below 0 or too great")


def is_start(value):
    """Whether a signal, or the rows or columns of a plane, may start at a value."""
    return is_within(value, -1000, 900)


def is_allowed(span, most):
    """Whether a signal, or the rows or columns of a plane, may have a span; None stands for no span."""
    return span is not None and is_start(span[0]) and span[1] - span[0] <= most


def check_signal_span(value):
    """Raises BadSpan for a value that is not the span of a signal with a sample."""
    check_span(value)
    if not is_allowed(value, 64) or value[0] == value[1]:
        raise BadSpan("the span of a signal starts from -1000 to 900 and has 1 to 64 positions")


def even_indexes(span):
    """The indexes i / 2 of the even positions i of a span."""
    start, stop = span
    return (start + 1) // 2, (stop + 1) // 2


def odd_indexes(span):
    """The indexes (i - 1) / 2 of the odd positions i of a span."""
    start, stop = span
    return start // 2, stop // 2


def span_of_bands(low, high):
    """The span with these spans of indexes, (start, stop) each, or None if there is no such span."""
    # A half rounded up and a half rounded down make up the whole: no other span is possible, and one half tells both.
    span = (low[0] + high[0], low[1] + high[1])
    if even_indexes(span) == low:
        return span
    return None
