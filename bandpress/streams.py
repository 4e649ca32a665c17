"""Streams: byte strings of a header and of all packets, which may be cut."""

from bandpress.bytestrings import MOST_BYTES, bits_of, check_bytes
from bandpress.errors import BadBits, BadStream, TooMany
from bandpress.headers import header_of, read_header
from bandpress.layout import packet_keys
from bandpress.packetreaders import PictureReader
from bandpress.packets import pack
from bandpress.pictures import frame_of


def write_stream(picture, options):
    """The stream of a picture."""
    packets = pack(picture, options)
    data = stream_of(frame_of(picture), options, packets)
    if len(data) > MOST_BYTES:
        raise TooMany(MOST_BYTES)
    return data


def read_stream(data):
    """The tuple (frame, options, packets) of the packets that are whole in a stream."""
    check_bytes(data)
    frame, options, position = read_header(data)
    keys = packet_keys(frame, options)
    reader = PictureReader(frame, options)
    bits = bits_of(data)
    packets = []
    for key in keys:
        behind = end_of_packet(reader, key, data, bits, position)
        if behind is None:
            return frame, options, tuple(packets)
        packets.append((key, data[position:behind]))
        position = behind
    if position < len(data):
        raise BadStream(position)
    return frame, options, tuple(packets)


def end_of_packet(reader, key, data, bits, position):
    """The position behind the packet that begins at a position, or None if the stream is cut before it."""
    try:
        return reader.read(key, data, bits, position)
    except BadBits as error:
        if error.index is None:
            raise BadStream(position) from None
        return None


def stream_of(frame, options, packets):
    """The byte string of a header and of packets."""
    return (*header_of(frame, options), *[byte for _, data in packets for byte in data])
