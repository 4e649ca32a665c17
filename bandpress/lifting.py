"""The transform of signals: lifting steps that part a signal into bands, and their way back."""

from bandpress.checks import is_within
from bandpress.errors import BadBands, BadStage
from bandpress.kernels import check_kernel
from bandpress.signals import check_bands, check_exact_signal, check_signal, is_exact_signal, is_signal
from bandpress.signals import joined, parted
from bandpress.steps import exactly_lifted, exactly_unlifted, lifted, unlifted


def stage(kernel, signal, count):
    """The signal after the first `count` steps of a kernel."""
    check_kernel(kernel)
    check_signal(signal)
    if not is_within(count, 0, len(kernel.steps)):
        raise BadStage("count is an integer from 0 to the number of steps")
    start, samples = signal
    return start, lifted(kernel.steps[:count], start, samples)


def analyze(kernel, signal):
    """The bands (low, high) of a signal."""
    check_kernel(kernel)
    check_signal(signal)
    start, samples = signal
    return parted(start, lifted(kernel.steps, start, samples))


def synthesize(kernel, low, high):
    """The signal whose bands are low and high."""
    check_kernel(kernel)
    if not is_signal(low) or not is_signal(high):
        raise BadBands("a band is a start and at most 64 integers")
    check_bands(low, high)
    start, samples = joined(low, high)
    return start, unlifted(kernel.steps, start, samples)


def analyze_exactly(kernel, signal):
    """The bands of a signal of ratios, without rounding."""
    check_kernel(kernel)
    check_exact_signal(signal)
    start, samples = signal
    return parted(start, exactly_lifted(kernel.steps, start, samples))


def synthesize_exactly(kernel, low, high):
    """The signal of ratios whose bands are low and high, without rounding."""
    check_kernel(kernel)
    if not is_exact_signal(low) or not is_exact_signal(high):
        raise BadBands("an exact band is a start and at most 64 ratios")
    check_bands(low, high)
    start, samples = joined(low, high)
    return start, exactly_unlifted(kernel.steps, start, samples)
