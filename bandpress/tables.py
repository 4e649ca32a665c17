"""Tables: how the state of a context follows from the bits that are coded with it."""

from bandpress.checks import is_bit, is_tuple, is_within
from bandpress.errors import BadTable, NotTable

SHARES = (32, 28, 24, 21, 18, 16, 14, 12, 10, 9, 8, 7, 6, 5, 4, 3, 2, 1)


class Table:
    """The states that a context may have, 1 to 32 of them. It does not change."""

    def __init__(self, states):
        if not is_tuple(states, 1, 32):
            raise BadTable(None)
        for index, state in enumerate(states):
            if not is_state(state, len(states)):
                raise BadTable(index)
        self._states = states

    @property
    def states(self):
        """The tuple of the states (share, after_common, after_rare, flips)."""
        return self._states

    def __eq__(self, other):
        return isinstance(other, Table) and self._states == other._states


def own_table():
    """The table that the codec uses."""
    last = len(SHARES) - 1
    return Table(tuple([(share, min(state + 1, last), max(state - 2, 0), 1 if state == 0 else 0)
                        for state, share in enumerate(SHARES)]))


def is_state(value, many):
    """Whether a value is a state of a table that has so many."""
    if not is_tuple(value, 4, 4):
        return False
    share, after_common, after_rare, flips = value
    if not is_within(share, 1, 32) or not is_bit(flips):
        return False
    return is_within(after_common, 0, many - 1) and is_within(after_rare, 0, many - 1)


def check_table(value):
    """Raises NotTable for a value that is not a table."""
    if not isinstance(value, Table):
        raise NotTable("a table is an object of the class Table")
