"""How contexts adapt: the state and the common bit that each of them has after the bits coded so far."""

UNUSED = (0, 0)


class Contexts:
    """The tuple (state, common bit) of each context that was used so far, in the dict `used`."""

    def __init__(self, table):
        self._states = table.states
        self.used = {}

    def common_of(self, context):
        """The common bit of a context."""
        return self.used.get(context, UNUSED)[1]

    def share_of(self, context):
        """The share, of 64, that the rarer bit of a context has."""
        return self._states[self.used.get(context, UNUSED)[0]][0]

    def adapt(self, context, bit):
        """Changes the state of a context, and perhaps its common bit, after a bit was coded with it."""
        state, common = self.used.get(context, UNUSED)
        _, after_common, after_rare, flips = self._states[state]
        if bit == common:
            self.used[context] = (after_common, common)
        else:
            self.used[context] = (after_rare, common ^ flips)


def used_states(contexts):
    """The ascending tuple of (context, state, common bit) of all contexts that were used."""
    used = contexts.used
    return tuple([(context, *used[context]) for context in sorted(used)])
