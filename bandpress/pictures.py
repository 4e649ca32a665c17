"""Pictures (top, left, components), and their frames (top, left, height, width, many)."""

from bandpress.checks import is_rows, is_tuple, is_within
from bandpress.errors import BadFrame, BadPicture

END = 100
LONGEST_SIDE = 16
MOST_COMPONENTS = 3
GREATEST_SAMPLE = 255


def frame_of(picture):
    """The frame of a picture."""
    check_picture(picture)
    top, left, components = picture
    return top, left, len(components[0]), len(components[0][0]), len(components)


def check_picture(value):
    """Raises BadPicture for a value that is not a picture."""
    if not is_tuple(value, 3, 3) or not is_corner(value[0]) or not is_corner(value[1]):
        raise BadPicture(None)
    top, left, components = value
    if not is_tuple(components, 1, MOST_COMPONENTS):
        raise BadPicture(None)
    for index, component in enumerate(components):
        if not is_component(component, END - top, END - left):
            raise BadPicture(index)
        if len(component) != len(components[0]) or len(component[0]) != len(components[0][0]):
            raise BadPicture(index)


def check_frame(value):
    """Raises BadFrame for a value that is not the frame of a picture."""
    if not is_tuple(value, 5, 5) or not is_corner(value[0]) or not is_corner(value[1]):
        raise BadFrame("a frame is a tuple of the top, left, height, width and number of components of a picture")
    top, left, height, width, many = value
    if not is_length(height, END - top) or not is_length(width, END - left) or not is_within(many, 1, MOST_COMPONENTS):
        raise BadFrame("no picture has this height, this width or so many components here")


def is_corner(value):
    """Whether a value may be the top or the left of a picture."""
    return is_within(value, 0, END - 1)


def is_length(value, room):
    """Whether a value may be the height or the width of a picture for which there is so much room."""
    return is_within(value, 1, min(LONGEST_SIDE, room))


def is_sample(value):
    """Whether a value may be a sample of a picture."""
    return is_within(value, -GREATEST_SAMPLE, GREATEST_SAMPLE)


def is_component(value, height, width):
    """Whether a value may be a component of a picture for which there is room of this height and width."""
    return is_rows(value, LONGEST_SIDE, is_sample) and len(value) <= height and len(value[0]) <= width
