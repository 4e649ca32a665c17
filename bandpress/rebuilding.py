"""How pictures, and what is certain of them, follow from the ranges that are known of their blocks.

Here blocks are what `read_packets` returns: tuples (key, passes, ranges) of all blocks in ascending order.
"""

from bandpress.colors import are_turned, components_turned_back
from bandpress.distortions import middle
from bandpress.grids import all_bands, block_parts, place_of, put_together, tile_parts, tiles_in
from bandpress.layout import all_blocks
from bandpress.options import kernel_of
from bandpress.pyramids import compose
from bandpress.regions import needed_masks


def picture_from(frame, options, blocks):
    """The picture that blocks tell."""
    planes = known_planes(frame, options, blocks, lambda known: 0 if known is None else middle(known[0], known[1]))
    tiles = {key: tile_rows(planes, key, options) for key in stacks_of(frame, options)}
    components = components_from(frame, options, tiles)
    if are_turned(options, frame[4]):
        components = components_turned_back(components)
    return frame[0], frame[1], components


def certain_samples(frame, options, blocks):
    """The tuple with, for each component, the rows that tell which samples are certain."""
    planes = known_planes(frame, options, blocks, lambda known: known is not None and known[0] == known[1])
    rectangles = tiles_in(frame, options)
    tiles = {(tile, component): certain_rows(planes, (tile, component), rectangles[tile], options)
             for tile, component in stacks_of(frame, options)}
    components = components_from(frame, options, tiles)
    if are_turned(options, frame[4]):
        together = tuple([tuple([all(list(answers)) for answers in zip(*lines)]) for lines in zip(*components)])
        return together, together, together
    return components


def stacks_of(frame, options):
    """The list of the tuples (tile, component)."""
    return [(tile, component) for tile in range(len(tiles_in(frame, options))) for component in range(frame[4])]


def known_planes(frame, options, blocks, told):
    """The dict by keys of planes of all bands, with what `told` makes of the ranges of the coefficients.

    The ranges are divided if there is a region, and None stands for that of a coefficient without a pass.
    """
    parts = {}
    for (key, rectangle), (_, _, ranges) in zip(all_blocks(frame, options), blocks):
        _, _, height, width = place_of(rectangle)
        rows = ((None,) * width,) * height if ranges is None else divided_rows(ranges, options)
        parts.setdefault(key[:4], []).append([[told(known) for known in row] for row in rows])
    result = {}
    for key, band in all_bands(frame, options):
        top, left, height, _ = place_of(band)
        across = len(block_parts(band, options.side)[1])
        result[key] = (top, left, put_together(parts.get(key, []), height, across))
    return result


def tile_rows(planes, stack, options):
    """The rows of a component of a tile whose bands are known."""
    pyramid = [planes[stack + (0, 0)]]
    for resolution in range(1, options.levels + 1):
        pyramid.append(tuple([planes[stack + (resolution, band)] for band in range(3)]))
    return compose(kernel_of(options), tuple(pyramid))[2]


def certain_rows(exact, stack, rectangle, options):
    """The rows of a component of a tile that tell which samples need none but exact coefficients."""
    rows, columns = rectangle
    return tuple([tuple([is_certain(exact, stack, rectangle, options, (row,), (column,))
                         for column in range(columns[0], columns[1])]) for row in range(rows[0], rows[1])])


def is_certain(exact, stack, rectangle, options, inner_rows, inner_columns):
    """Whether all the coefficients that some samples of a tile need are exact."""
    masks = needed_masks(kernel_of(options), options.levels, rectangle, inner_rows, inner_columns)
    for resolution, bands in enumerate(masks):
        for band, (mask_rows, mask_columns) in enumerate(bands):
            top, left, rows = exact[stack + (resolution, band)]
            if not all([rows[row - top][column - left] for row in mask_rows for column in mask_columns]):
                return False
    return True


def components_from(frame, options, tiles):
    """The components that rows of tiles, a dict by tuples (tile, component), make."""
    row_parts, column_parts = tile_parts(frame, options)
    count = len(row_parts) * len(column_parts)
    return tuple([put_together([tiles[(tile, component)] for tile in range(count)], frame[2], len(column_parts))
                  for component in range(frame[4])])


def divided_rows(ranges, options):
    """Rows of ranges, divided if there is a region."""
    if options.region is None:
        return ranges
    return tuple([tuple([divided(least, most, options.shift) for least, most in row]) for row in ranges])


def divided(least, most, shift):
    """The range of a coefficient before the region's coefficients were multiplied by 2 ** shift."""
    if least > 0:
        return (least >> shift, most >> shift) if least >= 1 << shift else (least, most)
    if most < 0:
        mirrored_least, mirrored_most = divided(-most, -least, shift)
        return -mirrored_most, -mirrored_least
    return -divided_end(-least, shift), divided_end(most, shift)


def divided_end(end, shift):
    """The greatest size that a coefficient can have if it is at most `end` after the multiplication."""
    return max(end >> shift, min(end, (1 << shift) - 1))
