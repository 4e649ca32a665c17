"""Regions: the coefficients that positions need, along one direction and in all the bands of a tile."""

from bandpress.checks import is_tuple, is_within
from bandpress.errors import BadPositions, BadSpan
from bandpress.kernels import check_kernel
from bandpress.spans import check_span, even_indexes, is_allowed
from bandpress.steps import mirrored

MOST_POSITIONS = 64


def support(kernel, span, positions):
    """The indexes of the coefficients of the low and of the high band that positions of a span need."""
    check_kernel(kernel)
    check_span(span)
    if not is_allowed(span, MOST_POSITIONS):
        raise BadSpan("the span starts from -1000 to 900 and has at most 64 positions")
    check_positions(positions, span)
    found = {position: True for position in positions}
    for number, (weights, _) in enumerate(kernel.steps):
        for position in list(found):
            if position & 1 != number & 1:
                for source in sources_of(position, weights, span):
                    found[source] = True
    low = [position // 2 for position in sorted(found) if position & 1 == 0]
    high = [position // 2 for position in sorted(found) if position & 1 == 1]
    return tuple(low), tuple(high)


def sources_of(position, weights, span):
    """The list of the positions that a step with these weights reads to change a position."""
    start, stop = span
    last = stop - 1 - start
    if last == 0:
        return []
    reaches = [1 + 2 * place for place, weight in enumerate(weights) if weight != 0]
    return [start + mirrored(position - start + side * reach, last) for reach in reaches for side in (-1, 1)]


def check_positions(value, span):
    """Raises BadPositions for a value that is not a tuple of at most 64 positions of a span."""
    if not is_tuple(value, 0, MOST_POSITIONS):
        raise BadPositions(None)
    for index, position in enumerate(value):
        if not is_within(position, span[0], span[1] - 1):
            raise BadPositions(index)


def region_masks(kernel, levels, tile, region):
    """For each resolution of a tile, the list of what `needed_masks` tells of its bands for a region."""
    rows, columns = tile
    top, left, bottom, right = region
    inner_rows = tuple(range(max(rows[0], top), min(rows[1], bottom)))
    inner_columns = tuple(range(max(columns[0], left), min(columns[1], right)))
    # If there are no rows or no columns, the masks are empty, because each is a product of both.
    return needed_masks(kernel, levels, tile, inner_rows, inner_columns)


def needed_masks(kernel, levels, tile, inner_rows, inner_columns):
    """For each resolution of a tile, the list of the masks of its bands: which coefficients some samples need.

    The samples are those in some rows and some columns of a tile, and a mask is a tuple of two tuples likewise: the
    indexes of the rows and those of the columns of the band.
    """
    rows, columns = tile
    result = []
    for _ in range(levels):
        low_rows, high_rows = support(kernel, rows, inner_rows)
        low_columns, high_columns = support(kernel, columns, inner_columns)
        triple = [(low_rows, high_columns), (high_rows, low_columns), (high_rows, high_columns)]
        result = [triple, *result]
        rows, columns = even_indexes(rows), even_indexes(columns)
        inner_rows, inner_columns = low_rows, low_columns
    return [[(inner_rows, inner_columns)], *result]
