"""How pictures are cut into tiles, bands and blocks, and which packets tell of them."""

from bandpress.checks import is_integer, is_tuple
from bandpress.errors import TooMany
from bandpress.grids import all_bands, blocks_in, place_of, tiles_in
from bandpress.options import LETTERS, check_options
from bandpress.pictures import check_frame

MOST_KEYS = 4000


def tiles_of(frame, options):
    """The list of the tiles (top, left, height, width) of a picture."""
    check_frame(frame)
    check_options(options)
    return [place_of(tile) for tile in tiles_in(frame, options)]


def block_places(frame, options):
    """The ascending list of tuples (key, (top, left, height, width)) of all blocks of a picture."""
    check_frame(frame)
    check_options(options)
    return [(key, place_of(block)) for key, block in all_blocks(frame, options)]


def packet_keys(frame, options):
    """The list of the keys (tile, component, resolution, layer) of all packets, in the order of progression."""
    check_frame(frame)
    check_options(options)
    tiles = len(tiles_in(frame, options))
    components, resolutions, layers = frame[4], options.levels + 1, len(options.cuts)
    if tiles * components * resolutions * layers > MOST_KEYS:
        raise TooMany(MOST_KEYS)
    keys = [(tile, component, resolution, layer) for tile in range(tiles) for component in range(components)
            for resolution in range(resolutions) for layer in range(layers)]
    places = [LETTERS.index(letter) for letter in options.order]
    return sorted(keys, key=lambda key: tuple([key[place] for place in places]))


def all_blocks(frame, options):
    """The ascending list of tuples ((tile, component, resolution, band, block), rectangle) of all blocks."""
    return [((*key, number), block) for key, band in all_bands(frame, options)
            for number, block in enumerate(blocks_in(band, options.side))]


def is_key(value):
    """Whether a value has the form of the key of a packet."""
    return is_tuple(value, 4, 4) and all([is_integer(number) for number in value])
