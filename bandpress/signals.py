"""Signals: tuples (start, samples). The samples are integers, or ratios where no step rounds."""

from bandpress.checks import is_integer, is_tuple
from bandpress.errors import BadBands, BadSignal
from bandpress.ratios import is_ratio
from bandpress.spans import is_allowed, is_start, span_of_bands


def is_signal(value):
    """Whether a value is a signal of integers."""
    return has_samples(value) and all([is_integer(sample) for sample in value[1]])


def is_exact_signal(value):
    """Whether a value is a signal of ratios."""
    return has_samples(value) and all([is_ratio(sample) for sample in value[1]])


def has_samples(value):
    """Whether a value has the form of a signal, whatever its samples are."""
    return is_tuple(value, 2, 2) and is_start(value[0]) and is_tuple(value[1], 0, 64)


def check_signal(value):
    """Raises BadSignal for a value that is not a signal of integers."""
    if not is_signal(value):
        raise BadSignal("a signal is a start and at most 64 integers")


def check_exact_signal(value):
    """Raises BadSignal for a value that is not a signal of ratios."""
    if not is_exact_signal(value):
        raise BadSignal("an exact signal is a start and at most 64 ratios")


def check_bands(low, high):
    """Raises BadBands for two signals that are not the bands of a signal."""
    if not is_allowed(span_of_bands(span_of(low), span_of(high)), 64):
        raise BadBands("no signal has bands with these starts and lengths")


def span_of(signal):
    """The span of the positions of a signal."""
    start, samples = signal
    return start, start + len(samples)


def parted(start, samples):
    """The bands, (start, samples) each, that the samples at even and at odd positions make."""
    first_even = start & 1
    low = ((start + 1) // 2, tuple(samples[first_even::2]))
    high = (start // 2, tuple(samples[1 - first_even::2]))
    return low, high


def joined(low, high):
    """The start and the list of samples of which `parted` makes these two bands."""
    start = low[0] + high[0]
    first_even = start & 1
    samples = [0] * (len(low[1]) + len(high[1]))
    for index, sample in enumerate(low[1]):
        samples[first_even + 2 * index] = sample
    for index, sample in enumerate(high[1]):
        samples[1 - first_even + 2 * index] = sample
    return start, samples
