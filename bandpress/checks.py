"""Questions about values of any kind, which the checks of arguments are made of."""


def is_integer(value):
    """True and False are not integers in this package, although Python counts them among them."""
    return isinstance(value, int) and not isinstance(value, bool)


def is_within(value, least, most):
    """Whether a value is an integer from least to most."""
    return is_integer(value) and least <= value <= most


def is_tuple(value, fewest, most):
    """Whether a value is a tuple of fewest to most items."""
    return isinstance(value, tuple) and fewest <= len(value) <= most


def first_wrong(items, is_right):
    """The index of the first item for which is_right does not hold, or None if there is none."""
    for index, item in enumerate(items):
        if not is_right(item):
            return index
    return None
