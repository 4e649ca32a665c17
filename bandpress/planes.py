"""The transform of planes (top, left, rows): each row is analyzed, and then each column."""

from bandpress.checks import is_integer, is_tuple
from bandpress.errors import BadBands, BadPlane
from bandpress.kernels import check_kernel
from bandpress.signals import joined, parted
from bandpress.spans import is_allowed, is_start, span_of_bands
from bandpress.steps import lifted, unlifted


def split(kernel, plane):
    """The bands (ll, hl, lh, hh) of a plane."""
    check_kernel(kernel)
    check_plane(plane)
    top, left, rows = plane
    rows = [lifted(kernel.steps, left, row) for row in rows]
    # A column is of a low or of a high band as a whole, so all columns are analyzed before the bands are parted.
    columns = [lifted(kernel.steps, top, column) for column in transposed(rows, width_of(rows))]
    (low_top, low_rows), (high_top, high_rows) = parted(top, transposed(columns, len(rows)))
    ll, hl = columns_parted(low_top, left, low_rows)
    lh, hh = columns_parted(high_top, left, high_rows)
    return ll, hl, lh, hh


def merge(kernel, ll, hl, lh, hh):
    """The plane whose bands are given."""
    check_kernel(kernel)
    check_plane_bands(ll, hl, lh, hh)
    left = ll[1] + hl[1]
    top, rows = joined((ll[0], columns_joined(ll, hl)), (lh[0], columns_joined(lh, hh)))
    columns = [unlifted(kernel.steps, top, column) for column in transposed(rows, width_of(rows))]
    rows = [unlifted(kernel.steps, left, row) for row in transposed(columns, len(rows))]
    return top, left, tuple(rows)


def is_plane(value):
    """Whether a value is a plane."""
    if not is_tuple(value, 3, 3):
        return False
    top, left, rows = value
    if not is_start(top) or not is_start(left) or not is_tuple(rows, 0, 16):
        return False
    if not all([is_row(row) for row in rows]):
        return False
    return all([len(row) == width_of(rows) for row in rows])


def is_row(value):
    """Whether a value is a row that a plane may have."""
    return is_tuple(value, 0, 16) and all([is_integer(sample) for sample in value])


def check_plane(value):
    """Raises BadPlane for a value that is not a plane."""
    if not is_plane(value):
        raise BadPlane("a plane is a top, a left and at most 16 rows of at most 16 integers")


def check_plane_bands(ll, hl, lh, hh):
    """Raises BadBands for four values that are not the bands of a plane."""
    if not all([is_plane(band) for band in (ll, hl, lh, hh)]):
        raise BadBands("a band is a plane")
    if not are_side_by_side(ll, hl) or not are_side_by_side(lh, hh):
        raise BadBands("hl has other rows than ll, or hh than lh")
    if not are_one_above_other(ll, lh) or not are_one_above_other(hl, hh):
        raise BadBands("lh has other columns than ll, or hh than hl")
    rows = span_of_bands((ll[0], ll[0] + len(ll[2])), (lh[0], lh[0] + len(lh[2])))
    low_width = max(width_of(ll[2]), width_of(lh[2]))
    high_width = max(width_of(hl[2]), width_of(hh[2]))
    columns = span_of_bands((ll[1], ll[1] + low_width), (hl[1], hl[1] + high_width))
    if not is_allowed(rows, 16) or not is_allowed(columns, 16):
        raise BadBands("no plane has bands with these places and sizes")


def are_side_by_side(low, high):
    """Whether two planes have the same rows."""
    return low[0] == high[0] and len(low[2]) == len(high[2])


def are_one_above_other(low, high):
    """Whether two planes have the same columns, as far as a plane without rows tells its columns."""
    if low[1] != high[1]:
        return False
    return low[2] == () or high[2] == () or width_of(low[2]) == width_of(high[2])


def width_of(rows):
    """The number of columns of rows."""
    if len(rows) == 0:
        return 0
    return len(rows[0])


def transposed(rows, width):
    """The list of the columns of rows; width tells how many, also if there are no rows."""
    return [tuple([row[index] for row in rows]) for index in range(width)]


def columns_parted(top, left, rows):
    """The planes that the columns at even and at odd positions make."""
    (low_left, _), (high_left, _) = parted(left, ())
    halves = [parted(left, row) for row in rows]
    low_rows = tuple([low[1] for low, _ in halves])
    high_rows = tuple([high[1] for _, high in halves])
    return (top, low_left, low_rows), (top, high_left, high_rows)


def columns_joined(low, high):
    """The list of the rows of which `columns_parted` makes these two planes."""
    return [joined((low[1], evens), (high[1], odds))[1] for evens, odds in zip(low[2], high[2])]
