"""Changes of all the packets of a picture that do not decode them."""

from bandpress.checks import is_tuple, is_within
from bandpress.errors import BadFrame, BadNumber, BadOptions, BadPackets, BadTiles
from bandpress.grids import tile_parts
from bandpress.layout import packet_keys
from bandpress.packetreaders import is_keyed
from bandpress.spans import low_span_after


def keep_layers(frame, options, packets, layers):
    """The packets of the first layers."""
    check_packets(frame, options, packets)
    check_number(layers, 1, len(options.cuts))
    kept = {key: data for key, data in packets if key[3] < layers}
    return arranged(frame, options.changed(cuts=options.cuts[:layers]), kept)


def keep_components(frame, options, packets, many):
    """The packets of the first components."""
    check_packets(frame, options, packets)
    top, left, height, width, components = frame
    check_number(many, 1, components)
    if options.colors and components == 3 and many < 3:
        raise BadOptions("colors")
    kept = {key: data for key, data in packets if key[1] < many}
    return arranged((top, left, height, width, many), options, kept)


def reorder(frame, options, packets, order):
    """The packets in another order of progression."""
    check_packets(frame, options, packets)
    return arranged(frame, options.changed(order=order), {key: data for key, data in packets})


def crop(frame, options, packets, tiles):
    """The packets of the tiles in a rectangle (first row, first column, last row, last column) of the grid."""
    check_packets(frame, options, packets)
    row_parts, column_parts = tile_parts(frame, options)
    check_tiles(tiles, len(row_parts), len(column_parts))
    first_row, first_column, last_row, last_column = tiles
    top, left = row_parts[first_row][0], column_parts[first_column][0]
    height, width = row_parts[last_row - 1][1] - top, column_parts[last_column - 1][1] - left
    numbers = numbers_anew(list(range(first_row, last_row)), list(range(first_column, last_column)), len(column_parts))
    return arranged((top, left, height, width, frame[4]), options, renumbered(packets, numbers))


def keep_levels(frame, options, packets, levels):
    """The packets of the resolutions 0 to levels."""
    check_packets(frame, options, packets)
    check_number(levels, 0, options.levels)
    gone = options.levels - levels
    if gone == 0:
        return frame, options, packets
    lesser = options_after(options, levels)
    top, left, height, width, many = frame
    rows, columns = low_span_after((top, top + height), gone), low_span_after((left, left + width), gone)
    if rows[0] == rows[1] or columns[0] == columns[1]:
        raise BadFrame("nothing is left of the picture")
    row_parts, column_parts = tile_parts(frame, options)
    numbers = numbers_anew(places_left(row_parts, gone), places_left(column_parts, gone), len(column_parts))
    kept = [(key, data) for key, data in packets if key[2] <= levels]
    smaller = (rows[0], columns[0], rows[1] - rows[0], columns[1] - columns[0], many)
    return arranged(smaller, lesser, renumbered(kept, numbers))


def options_after(options, levels):
    """The options of a picture of which so many levels are kept."""
    if options.region is not None:
        raise BadOptions("region")
    gone = options.levels - levels
    if (options.tile_height >> gone) << gone != options.tile_height:
        raise BadOptions("tile_height")
    if (options.tile_width >> gone) << gone != options.tile_width:
        raise BadOptions("tile_width")
    return options.changed(levels=levels, tile_height=options.tile_height >> gone,
                           tile_width=options.tile_width >> gone)


def places_left(parts, gone):
    """The list of the places of the spans of which something is left after so many levels are gone."""
    spans = [low_span_after(part, gone) for part in parts]
    return [place for place, (start, stop) in enumerate(spans) if start < stop]


def numbers_anew(rows, columns, across):
    """The dict of the new numbers of the tiles in some rows and columns of a grid that is so many tiles across."""
    old = [across * row + column for row in rows for column in columns]
    return {number: place for place, number in enumerate(old)}


def renumbered(packets, numbers):
    """The dict of the byte strings of the packets of some tiles, by keys with the tiles' new numbers."""
    return {(numbers[key[0]], *key[1:]): data for key, data in packets if key[0] in numbers}


def arranged(frame, options, kept):
    """The tuple (frame, options, packets), with the packets that a dict has in the order of progression."""
    return frame, options, tuple([(key, kept[key]) for key in packet_keys(frame, options)])


def check_packets(frame, options, packets):
    """Raises BadFrame, NotOptions, TooMany, or BadPackets for what does not have the form of all packets."""
    keys = packet_keys(frame, options)
    if not is_tuple(packets, len(keys), len(keys)):
        raise BadPackets(None)
    for index, item in enumerate(packets):
        if not is_keyed(item) or item[0] != keys[index]:
            raise BadPackets(index)


def check_number(value, least, most):
    """Raises BadNumber for a value that is not an integer from least to most."""
    if not is_within(value, least, most):
        raise BadNumber("a number is not an integer, or out of its range")


def check_tiles(value, rows, columns):
    """Raises BadTiles for a value that is not a rectangle of a grid of so many rows and columns of tiles."""
    if not is_tuple(value, 4, 4):
        raise BadTiles("tiles are a tuple of the first and the last row and column")
    first_row, first_column, last_row, last_column = value
    if not is_within(first_row, 0, rows - 1) or not is_within(first_column, 0, columns - 1):
        raise BadTiles("the grid has no such first row or column")
    if not is_within(last_row, first_row + 1, rows) or not is_within(last_column, first_column + 1, columns):
        raise BadTiles("the last row or column is not behind the first one, or too great")
