"""What the packets that came tell of a picture, if others were lost."""

from bandpress.errors import BadKeys, BadPackets
from bandpress.layout import is_key, packet_keys
from bandpress.packetreaders import PictureReader, is_keyed
from bandpress.rebuilding import certain_samples, picture_from


class Arrivals:
    """The keys of the packets that came, in the order of progression, and which of these are usable."""

    def __init__(self, keys):
        self._places = {key: place for place, key in enumerate(keys)}
        self._last = -1
        self.usable = {}

    def can_come(self, key):
        """Whether the packet with a key, of the form of one, may come now."""
        return self._places.get(key, -1) > self._last

    def come(self, key):
        """Notes that the packet with a key came, and returns whether it is usable."""
        self._last = self._places[key]
        tile, component, resolution, layer = key
        # The packet of the layer before is usable just if those of all layers before that one came, too.
        if layer > 0 and (tile, component, resolution, layer - 1) not in self.usable:
            return False
        self.usable[key] = True
        return True


def usable_keys(frame, options, keys):
    """The list of the keys of the usable packets, in order, if just the packets with some keys came."""
    arrivals = Arrivals(packet_keys(frame, options))
    if not isinstance(keys, tuple):
        raise BadKeys(None)
    for index, key in enumerate(keys):
        if not is_key(key) or not arrivals.can_come(key):
            raise BadKeys(index)
        arrivals.come(key)
    return list(arrivals.usable)


def read_received(frame, options, packets):
    """The tuple of (key, passes, ranges) of all blocks that the usable ones of some packets tell."""
    arrivals = Arrivals(packet_keys(frame, options))
    if not isinstance(packets, tuple):
        raise BadPackets(None)
    reader = PictureReader(frame, options)
    for index, item in enumerate(packets):
        if not is_keyed(item) or not arrivals.can_come(item[0]):
            raise BadPackets(index)
        if arrivals.come(item[0]) and not reader.is_packet(item[0], item[1]):
            raise BadPackets(index)
    return reader.results()


def picture_received(frame, options, packets):
    """The picture that the usable ones of some packets tell."""
    return picture_from(frame, options, read_received(frame, options, packets))


def certain(frame, options, packets):
    """For each component, the rows that tell which samples are certain by the usable ones of some packets."""
    return certain_samples(frame, options, read_received(frame, options, packets))
