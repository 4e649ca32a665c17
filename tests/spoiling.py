"""Packets that nobody has written: made of any bits and bytes, or of packets of pictures that were changed."""

import copy
import random

from tests import codec


def spoiled(data, source):
    """A byte string that differs from another one by a bit, by some bytes, or by its length."""
    change = source.randrange(6)
    if change == 0 and data:
        place = source.randrange(min(3, len(data)))
        return (*data[:place], data[place] ^ 2 ** source.randrange(8), *data[place + 1:])
    if change == 1:
        return data[:source.randrange(len(data) + 1)]
    if change == 2:
        return (*data, *(source.randrange(256) for _ in range(source.randint(1, 3))))
    if change == 3:
        return tuple(source.randrange(256) for _ in range(source.randint(0, 6)))
    if change == 4 and data:
        place = source.randrange(len(data))
        return (*data[:place], source.randrange(256), *data[place + 1:])
    return data


def made_up(reader, key, source):
    """A packet made of any bits that a codec.Reader can read, or one that it cannot."""
    share = source.choice((0.3, 0.5, 0.7))
    bits = "1" + "".join("1" if source.random() < share else "0" for _ in range(8 * source.randint(1, 6) - 1))
    data = tuple(int(bits[k:k + 8], 2) for k in range(0, len(bits), 8))
    for _ in range(60):
        try:
            return data[:copy.deepcopy(reader).read(key, data)]
        except codec.EndsEarly:
            data = (*data, source.randrange(256))
        except codec.NoPacket:
            return data
    return data


def made_up_packets(frame, o, seed):
    """The list of the packets of a picture as far as a codec.Reader can read them, with one more behind these."""
    source = random.Random(6000 + seed)
    reader = codec.Reader(frame, o)
    packets = []
    for key in codec.keys(frame, o):
        data = made_up(reader, key, source)
        for _ in range(source.choice((0, 10, 30))):
            if readable(reader, key, data):
                break
            data = made_up(reader, key, source)
        packets.append((key, data))
        if not readable(reader, key, data):
            break
        reader.read(key, data)
    return tuple(packets)


def readable(reader, key, data):
    """Whether a reader can read a packet."""
    try:
        return copy.deepcopy(reader).read(key, data) == len(data)
    except (codec.EndsEarly, codec.NoPacket):
        return False
