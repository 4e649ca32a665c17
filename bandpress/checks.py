"""Questions about values of any kind, which the checks of arguments are made of."""


def is_integer(value):
    """True and False are not integers in this package, although Python counts them among them."""
    return isinstance(value, int) and not isinstance(value, bool)


def is_within(value, least, most):
    """Whether a value is an integer from least to most."""
    return is_integer(value) and least <= value <= most


def is_tuple(value, fewest, most):
    """Whether a value is a tuple of fewest to most items."""
    return isinstance(value, tuple) and fewest <= len(value) <= most


def is_bit(value):
    """Whether a value is the integer 0 or 1."""
    return is_within(value, 0, 1)


def is_rows(value, most, is_right):
    """Whether a value is 1 to most rows of one length, 1 to most, with items for which is_right holds."""
    if not is_tuple(value, 1, most) or not all([is_tuple(row, 1, most) for row in value]):
        return False
    return all([len(row) == len(value[0]) and first_wrong(row, is_right) is None for row in value])


def first_wrong(items, is_right):
    """The index of the first item for which is_right does not hold, or None if there is none."""
    for index, item in enumerate(items):
        if not is_right(item):
            return index
    return None
