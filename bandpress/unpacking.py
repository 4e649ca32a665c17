"""What the first packets of a picture tell."""

from bandpress.errors import BadPackets
from bandpress.layout import packet_keys
from bandpress.packetreaders import PictureReader, is_keyed
from bandpress.rebuilding import picture_from


def read_packets(frame, options, packets):
    """The tuple of (key, passes, ranges) of all blocks after the first packets."""
    keys = packet_keys(frame, options)
    if not isinstance(packets, tuple) or len(packets) > len(keys):
        raise BadPackets(None)
    reader = PictureReader(frame, options)
    for index, item in enumerate(packets):
        if not is_keyed(item) or item[0] != keys[index] or not reader.is_packet(item[0], item[1]):
            raise BadPackets(index)
    return reader.results()


def picture_of(frame, options, packets):
    """The picture that the first packets tell."""
    return picture_from(frame, options, read_packets(frame, options, packets))
