"""Colors: steps (target, weights, shift) that turn pixels of three numbers, and turn them back."""

from bandpress.checks import first_wrong, is_integer, is_tuple, is_within
from bandpress.errors import BadColors, BadPixel

MOST_STEPS = 8
OWN_STEPS = ((0, (0, 0, -1), 0), (2, (1, 0, 0), 1), (1, (0, 0, -1), 0), (2, (0, 1, 0), 1))


def turn(steps, pixel):
    """The pixel after color steps, one after another."""
    check_colors(steps)
    check_pixel(pixel)
    for step in steps:
        pixel = after_step(step, pixel, 1)
    return pixel


def turn_back(steps, pixel):
    """The pixel of which `turn` makes this one."""
    check_colors(steps)
    check_pixel(pixel)
    for step in steps[::-1]:
        pixel = after_step(step, pixel, -1)
    return pixel


def own_colors():
    """The color steps that the codec uses."""
    return OWN_STEPS


def after_step(step, pixel, sign):
    """The pixel after a color step (sign 1), or before it (sign -1)."""
    target, weights, shift = step
    half = (1 << shift) >> 1
    total = sum([weight * number for weight, number in zip(weights, pixel)])
    numbers = list(pixel)
    numbers[target] += sign * ((total + half) >> shift)
    return tuple(numbers)


def are_turned(options, many):
    """Whether options tell to turn the colors of a picture of so many components."""
    return options.colors and many == 3


def turned_components(components):
    """The three components of a picture after the codec's color steps."""
    return changed_pixels(components, lambda pixel: turn(OWN_STEPS, pixel))


def components_turned_back(components):
    """The three components of which `turned_components` makes these."""
    return changed_pixels(components, lambda pixel: turn_back(OWN_STEPS, pixel))


def changed_pixels(components, change):
    """Three components whose pixels, the tuples of their samples at a place, are changed."""
    rows = [[change(pixel) for pixel in zip(*lines)] for lines in zip(*components)]
    return tuple([tuple([tuple([pixel[number] for pixel in row]) for row in rows]) for number in range(3)])


def is_color_step(value):
    """Whether a value is a color step."""
    if not is_tuple(value, 3, 3):
        return False
    target, weights, shift = value
    if not is_within(target, 0, 2) or not is_tuple(weights, 3, 3) or not is_within(shift, 0, 8):
        return False
    return all([is_within(weight, -64, 64) for weight in weights]) and weights[target] == 0


def check_colors(value):
    """Raises BadColors for a value that is not a tuple of at most 8 color steps."""
    if not is_tuple(value, 0, MOST_STEPS):
        raise BadColors(None)
    wrong = first_wrong(value, is_color_step)
    if wrong is not None:
        raise BadColors(wrong)


def check_pixel(value):
    """Raises BadPixel for a value that is not a tuple of three integers."""
    if not is_tuple(value, 3, 3) or not all([is_integer(number) for number in value]):
        raise BadPixel("a pixel is a tuple of three integers")
