"""The blocks of pictures, and the packets that tell of them."""

from bandpress.coefficients import coded_planes
from bandpress.grids import all_bands, block_parts, cut_out
from bandpress.layout import all_blocks, packet_keys
from bandpress.options import check_options
from bandpress.packetwriters import CodedBlock, PacketWriter
from bandpress.pictures import check_picture, frame_of


def picture_blocks(picture, options):
    """The ascending list of tuples (key, block) of all blocks of a picture."""
    check_picture(picture)
    check_options(options)
    planes = coded_planes(picture, options)
    return [(key, cut_out(planes[key[:4]], rectangle)) for key, rectangle in all_blocks(frame_of(picture), options)]


def pack(picture, options):
    """The tuple of the packets (key, byte string) of a picture, in the order of progression."""
    frame = frame_of(picture)
    keys = packet_keys(frame, options)
    writers = writers_of(frame, options, picture_blocks(picture, options))
    return tuple([(key, writers[key[:3]].packet(key[3])) for key in keys])


def writers_of(frame, options, blocks):
    """The dict of the PacketWriters of all tiles, components and resolutions, by tuples of these numbers."""
    coded = {}
    for key, block in blocks:
        coded.setdefault(key[:4], []).append(CodedBlock(block, options.cuts))
    bands = {}
    for key, band in all_bands(frame, options):
        _, column_parts = block_parts(band, options.side)
        bands.setdefault(key[:3], []).append((len(column_parts), coded.get(key, [])))
    return {key: PacketWriter(bands[key]) for key in bands}
