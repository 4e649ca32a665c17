"""Checks of bits, of contexts, and of pairs of both, as the coder takes them."""

from bandpress.checks import first_wrong, is_bit, is_tuple, is_within
from bandpress.errors import BadBit, BadContext, BadContexts, BadPairs, TooMany

MOST_CODED = 4000


def is_context(value):
    """Whether a value is a context."""
    return is_within(value, 0, 31)


def is_pair(value):
    """Whether a value is a pair (bit, context)."""
    return is_tuple(value, 2, 2) and is_bit(value[0]) and is_context(value[1])


def check_bit(value):
    """Raises BadBit for a value that is not a bit."""
    if not is_bit(value):
        raise BadBit("a bit is the integer 0 or 1")


def check_context(value):
    """Raises BadContext for a value that is not a context."""
    if not is_context(value):
        raise BadContext("a context is an integer from 0 to 31")


def check_pairs(value):
    """Raises BadPairs, or TooMany, for a value that is not a tuple of at most 4000 pairs."""
    if not isinstance(value, tuple):
        raise BadPairs(None)
    check_coded(len(value))
    wrong = first_wrong(value, is_pair)
    if wrong is not None:
        raise BadPairs(wrong)


def check_contexts(value):
    """Raises BadContexts, or TooMany, for a value that is not a tuple of at most 4000 contexts."""
    if not isinstance(value, tuple):
        raise BadContexts(None)
    check_coded(len(value))
    wrong = first_wrong(value, is_context)
    if wrong is not None:
        raise BadContexts(wrong)


def check_coded(count):
    """Raises TooMany for more bits than a segment may have."""
    if count > MOST_CODED:
        raise TooMany(MOST_CODED)
