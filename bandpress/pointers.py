"""The decoder's side: the number of a byte string, which points into one part of each interval."""

from bandpress.intervals import HALF, WHOLE


class Pointer:
    """The number of a byte string, seen from the interval of the bits that were decoded so far."""

    def __init__(self, data):
        self._data = data
        self._read = 0
        self._width = WHOLE
        # How far the number lies behind the low end, without the digits that were not read yet. These never matter,
        # because all ends of parts are integers.
        self._place = 0
        for _ in range(16):
            self._read_digit()

    def descend(self, share):
        """Goes into the part of the rare or of the common bit, and tells whether it is that of the rare bit."""
        rare = self._width * share // 64
        common = self._width - rare
        is_rare = self._place >= common
        if is_rare:
            self._place -= common
            self._width = rare
        else:
            self._width = common
        while self._width < HALF:
            self._width *= 2
            self._read_digit()
        return is_rare

    def _read_digit(self):
        """Reads one more binary digit; behind the last byte all are 0."""
        byte, passed = divmod(self._read, 8)
        self._place *= 2
        if byte < len(self._data):
            self._place += (self._data[byte] >> (7 - passed)) & 1
        self._read += 1


def decode_bit(pointer, contexts, context):
    """The next bit, decoded with a context, which adapts."""
    is_rare = pointer.descend(contexts.share_of(context))
    bit = contexts.common_of(context)
    if is_rare:
        bit = 1 - bit
    contexts.adapt(context, bit)
    return bit
