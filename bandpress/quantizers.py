"""Quantizers: numbers of ratios by a step size, and the ratios that are restored from numbers."""

from bandpress.checks import is_within
from bandpress.errors import BadNumber, BadShare, BadStep
from bandpress.ratios import check_ratio, is_ratio, minus, plus, times


def quantize(value, size):
    """The number of a ratio: how many whole steps it is away from 0, with its sign."""
    check_ratio(value)
    check_step_size(size)
    number = abs(value[0]) * size[1] // (value[1] * size[0])
    if value[0] < 0:
        return -number
    return number


def cell_of(number, size):
    """The interval (least, most, has_least, has_most) of the ratios that have a number."""
    check_number(number)
    check_step_size(size)
    near = times((abs(number), 1), size)
    far = plus(near, size)
    if number > 0:
        return near, far, True, False
    if number < 0:
        return minus(far), minus(near), False, True
    return minus(far), far, False, False


def dropped(number, planes):
    """A number without its last `planes` binary digits."""
    check_number(number)
    if not is_within(planes, 0, 30):
        raise BadNumber("planes is an integer from 0 to 30")
    if number < 0:
        return -(-number >> planes)
    return number >> planes


def restored(number, size, share):
    """The ratio that stands for a number: `share` of a step behind the near end of its cell."""
    check_number(number)
    check_step_size(size)
    check_share(share)
    if number == 0:
        return (0, 1)
    distance = times(plus((abs(number), 1), share), size)
    if number < 0:
        return minus(distance)
    return distance


def worst_restored(number, size, share):
    """The least ratio that the error of `restored` never exceeds."""
    check_number(number)
    check_step_size(size)
    check_share(share)
    if number == 0:
        return size
    part, whole = share
    return times((max(part, whole - part), 1), times(size, (1, whole)))


def check_step_size(value):
    """Raises BadStep for a value that is not a step size."""
    if not is_ratio(value) or value[0] <= 0:
        raise BadStep("a step size is a ratio above 0")


def check_number(value):
    """Raises BadNumber for a value that is not the number of a ratio."""
    if not is_within(value, -1000000000, 1000000000):
        raise BadNumber("a number is an integer from -10 ** 9 to 10 ** 9")


def check_share(value):
    """Raises BadShare for a value that is not a ratio from 0 to 1."""
    if not is_ratio(value) or value[0] < 0 or value[0] > value[1]:
        raise BadShare("a share is a ratio from 0 to 1")
