"""Grids that are anchored at (0, 0). They cut pictures into tiles, and the bands of tiles into blocks.

A rectangle is a tuple (rows, columns) of two spans.
"""

from bandpress.spans import even_indexes, odd_indexes


def parts_of(span, side):
    """The list of the spans into which the lines of a grid cut a span."""
    start, stop = span
    if start == stop:
        return []
    numbers = range(start // side, (stop - 1) // side + 1)
    return [(max(start, side * number), min(stop, side * number + side)) for number in numbers]


def crossings(row_parts, column_parts):
    """The list of the rectangles that parts of rows and of columns make, row by row."""
    return [(rows, columns) for rows in row_parts for columns in column_parts]


def tile_parts(frame, options):
    """The lists of the spans of the rows and of the columns of tiles."""
    top, left, height, width, _ = frame
    return parts_of((top, top + height), options.tile_height), parts_of((left, left + width), options.tile_width)


def tiles_in(frame, options):
    """The list of the tiles, as rectangles."""
    row_parts, column_parts = tile_parts(frame, options)
    return crossings(row_parts, column_parts)


def block_parts(band, side):
    """The lists of the spans of the rows and of the columns of the blocks of a band."""
    rows, columns = band
    return parts_of(rows, side), parts_of(columns, side)


def blocks_in(band, side):
    """The list of the blocks of a band, as rectangles."""
    row_parts, column_parts = block_parts(band, side)
    return crossings(row_parts, column_parts)


def bands_in(tile, levels, resolution):
    """The list of the bands of a resolution of a tile, as rectangles."""
    rows, columns = tile
    for _ in range(levels - resolution):
        rows, columns = even_indexes(rows), even_indexes(columns)
    if resolution == 0:
        return [(rows, columns)]
    low_rows, low_columns = even_indexes(rows), even_indexes(columns)
    high_rows, high_columns = odd_indexes(rows), odd_indexes(columns)
    return [(low_rows, high_columns), (high_rows, low_columns), (high_rows, high_columns)]


def all_bands(frame, options):
    """The ascending list of tuples (key, rectangle) of all bands; key is (tile, component, resolution, band)."""
    tiles = tiles_in(frame, options)
    return [((tile, component, resolution, number), band)
            for tile in range(len(tiles)) for component in range(frame[4])
            for resolution in range(options.levels + 1)
            for number, band in enumerate(bands_in(tiles[tile], options.levels, resolution))]


def place_of(rectangle):
    """The tuple (top, left, height, width) of a rectangle."""
    (top, bottom), (left, right) = rectangle
    return top, left, bottom - top, right - left


def cut_out(plane, rectangle):
    """The rows of the part of a plane that lies in a rectangle."""
    top, left, rows = plane
    (first_row, last_row), (first_column, last_column) = rectangle
    return tuple([row[first_column - left:last_column - left] for row in rows[first_row - top:last_row - top]])


def put_together(parts, height, across):
    """The rows that parts make, rows each, so many of which lie side by side; height is told if there are none."""
    if parts == []:
        return ((),) * height
    result = []
    for start in range(0, len(parts), across):
        beside = parts[start:start + across]
        for lines in zip(*beside):
            result.append(tuple([item for line in lines for item in line]))
    return tuple(result)
