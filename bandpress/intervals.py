"""The coder's side: intervals of numbers that become narrower with each bit, and the byte strings in them."""

from bandpress.adapting import Contexts
from bandpress.bytestrings import as_bytes

WHOLE = 65536
HALF = 32768


class Interval:
    """The numbers from low / 2 ** (16 + doublings) on that are less than (low + width) / 2 ** (16 + doublings)."""

    def __init__(self):
        self.low = 0
        self.width = WHOLE
        self.doublings = 0

    def narrow(self, is_rare, share):
        """Takes the part of the rare bit, which lies above, or that of the common bit."""
        rare = self.width * share // 64
        if is_rare:
            self.low += self.width - rare
            self.width = rare
        else:
            self.width -= rare
        while self.width < HALF:
            self.low *= 2
            self.width *= 2
            self.doublings += 1


def code_bit(interval, contexts, bit, context):
    """Narrows an interval to a bit that is coded with a context, and adapts the context."""
    interval.narrow(bit != contexts.common_of(context), contexts.share_of(context))
    contexts.adapt(context, bit)


def interval_of(table, pairs):
    """The Interval of pairs, coded one after another with contexts that were not used before."""
    interval = Interval()
    contexts = Contexts(table)
    for bit, context in pairs:
        code_bit(interval, contexts, bit, context)
    return interval


def shortest_code(interval):
    """The shortest byte string whose number lies in an interval, and the least one of these."""
    behind = interval.low + interval.width
    count = 0
    # How many of the binary digits of low lie behind the bytes. They never run out: the interval is so wide that
    # (doublings + 8) // 8 bytes are enough.
    rest = 16 + interval.doublings
    while rounded_up(interval.low, rest) >= behind:
        count += 1
        rest -= 8
    return as_bytes(rounded_up(interval.low, rest) >> rest, count)


def rounded_up(number, digits):
    """The least integer from a number on whose last binary digits are 0."""
    return -(-number >> digits) << digits


def common_start(interval):
    """The longest byte string with which all numbers of an interval begin."""
    last = interval.low + interval.width - 1
    count = 0
    # The digits behind the bytes never run out here either: the width tells at least 16 of them apart.
    rest = 16 + interval.doublings
    while (interval.low >> (rest - 8)) == (last >> (rest - 8)):
        count += 1
        rest -= 8
    return as_bytes(interval.low >> rest, count)
