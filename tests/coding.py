"""The binary coder once more, word by word from the document, with Fractions; and pairs and tables to try.

The tests compare the package with it. It shares nothing with the package.
"""

import math
import random
from fractions import Fraction

OWN_SHARES = (32, 28, 24, 21, 18, 16, 14, 12, 10, 9, 8, 7, 6, 5, 4, 3, 2, 1)
OWN_STATES = tuple((share, 17 if s == 17 else s + 1, 0 if s < 2 else s - 2, 1 if s == 0 else 0)
                   for s, share in enumerate(OWN_SHARES))

# Tables: 1 and 32 states, shares 1 and 32, flips 0 and 1, states that are left at once and states that stay.
STATES = (
    OWN_STATES,
    ((32, 0, 0, 0),),
    ((32, 0, 0, 1),),
    ((1, 0, 0, 0),),
    ((1, 0, 0, 1),),
    ((7, 1, 0, 1), (13, 1, 0, 0)),
    tuple((s + 1, (s + 5) % 32, (s * 7 + 3) % 32, s % 2) for s in range(32)),
    ((1, 2, 1, 1), (32, 0, 2, 0), (31, 1, 1, 1)),
)


class Coding:
    """The three integers of the coder, and a dict of the state and the common bit of each context."""

    def __init__(self, states):
        self.table = states
        self.contexts = {}
        self.begin()

    def begin(self):
        self.low, self.width, self.doublings = 0, 65536, 0

    def code(self, bit, context):
        s, common = self.contexts.get(context, (0, 0))
        share, after_common, after_rare, flips = self.table[s]
        rare = self.width * share // 64
        if bit == common:
            self.width -= rare
            s = after_common
        else:
            self.low += self.width - rare
            self.width = rare
            s = after_rare
            if flips == 1:
                common = 1 - common
        self.contexts[context] = (s, common)
        while self.width < 32768:
            self.low, self.width, self.doublings = 2 * self.low, 2 * self.width, self.doublings + 1

    def ends(self):
        """The first number of the interval, and the first one behind it."""
        whole = 2 ** (16 + self.doublings)
        return Fraction(self.low, whole), Fraction(self.low + self.width, whole)

    def states(self):
        return tuple((context, *self.contexts[context]) for context in sorted(self.contexts))


def coded(states, pairs):
    """The Coding of pairs."""
    coding = Coding(states)
    for bit, context in pairs:
        coding.code(bit, context)
    return coding


def number_of(data):
    """The Fraction for which a byte string stands."""
    total = Fraction(0)
    for place, byte in enumerate(data):
        total += Fraction(byte, 256 ** (place + 1))
    return total


def first_bytes(number, count):
    """The first bytes of a number from 0 on, less than 1."""
    whole = math.floor(number * 256 ** count)
    return tuple(whole // 256 ** (count - 1 - place) % 256 for place in range(count))


def shortest(least, behind):
    """The shortest byte string, and the least one of these, with a number from least on, less than behind."""
    count = 0
    while True:
        whole = math.ceil(least * 256 ** count)
        if Fraction(whole, 256 ** count) < behind:
            return first_bytes(Fraction(whole, 256 ** count), count)
        count += 1


def common_start(least, behind):
    """The longest byte string with which all numbers from least on, less than behind, begin."""
    count = 0
    # The numbers of k + 1 bytes cut what lies below behind just where a number begins with other bytes.
    while math.floor(least * 256 ** (count + 1)) == math.ceil(behind * 256 ** (count + 1)) - 1:
        count += 1
    return first_bytes(least, count)


def decoded(coding, number, contexts):
    """The list of the bits whose interval holds a number; each is tried out."""
    bits = []
    for context in contexts:
        state = dict(coding.contexts), coding.low, coding.width, coding.doublings
        for bit in (0, 1):
            coding.contexts, coding.low, coding.width, coding.doublings = dict(state[0]), *state[1:]
            coding.code(bit, context)
            least, behind = coding.ends()
            if least <= number < behind:
                bits.append(bit)
                break
        else:
            raise AssertionError("no interval holds the number")
    return bits


def some_pairs(count, seed):
    """A tuple of pairs: of many contexts or few, with bits of all kinds of evenness."""
    source = random.Random(7000 * seed + count)
    most = (0, 3, 18, 31)[seed % 4]
    shares = [source.choice((0, 2, 20, 50, 90, 100)) for _ in range(32)]
    result = []
    for _ in range(count):
        context = source.choice((0, most, source.randint(0, most)))
        result.append((int(source.randrange(100) < shares[context]), context))
    return tuple(result)


def some_bytes(count, seed):
    """A byte string with some zeros, and with some bytes 255."""
    source = random.Random(9000 * seed + count)
    return tuple(source.choice((0, 255, source.randint(0, 255), source.randint(0, 255))) for _ in range(count))
