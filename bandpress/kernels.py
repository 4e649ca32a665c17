"""Kernels: lists of lifting steps, each a tuple (weights, shift)."""

from bandpress.checks import first_wrong, is_tuple, is_within
from bandpress.errors import BadKernel, NotKernel


class Kernel:
    """A list of 1 to 4 lifting steps. It does not change."""

    def __init__(self, steps):
        if not is_tuple(steps, 1, 4):
            raise BadKernel(None)
        wrong = first_wrong(steps, is_step)
        if wrong is not None:
            raise BadKernel(wrong)
        self._steps = steps

    @property
    def steps(self):
        """The tuple of the steps."""
        return self._steps

    def __eq__(self, other):
        return isinstance(other, Kernel) and self._steps == other._steps


def short_kernel():
    """The kernel that the codec calls "short"."""
    return Kernel((((-1,), 1), ((1,), 2)))


def long_kernel():
    """The kernel that the codec calls "long"."""
    return Kernel((((-9, 1), 4), ((1,), 2)))


def is_step(value):
    """Whether a value is a lifting step."""
    if not is_tuple(value, 2, 2):
        return False
    weights, shift = value
    if not is_tuple(weights, 1, 2) or not is_within(shift, 0, 8):
        return False
    return all([is_within(weight, -64, 64) for weight in weights])


def check_kernel(value):
    """Raises NotKernel for a value that is not a kernel."""
    if not isinstance(value, Kernel):
        raise NotKernel("a kernel is an object of the class Kernel")
