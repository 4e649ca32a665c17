"""Pyramids: a plane that is split again and again, as a last low band and triples of high bands."""

from bandpress.checks import is_tuple
from bandpress.errors import BadPyramid
from bandpress.kernels import check_kernel
from bandpress.planes import check_plane, is_plane, merge, split
from bandpress.spans import check_levels


def decompose(kernel, plane, levels):
    """The pyramid of a plane that is split `levels` times."""
    check_kernel(kernel)
    check_plane(plane)
    check_levels(levels, 4)
    triples = []
    for _ in range(levels):
        plane, hl, lh, hh = split(kernel, plane)
        triples = [(hl, lh, hh), *triples]
    return (plane, *triples)


def compose(kernel, pyramid):
    """The plane of a pyramid."""
    check_kernel(kernel)
    if not is_pyramid(pyramid):
        raise BadPyramid("a pyramid is a plane and at most 4 tuples of three planes")
    plane, *triples = pyramid
    for hl, lh, hh in triples:
        plane = merge(kernel, plane, hl, lh, hh)
    return plane


def is_pyramid(value):
    """Whether a value has the form of a pyramid; its planes need not fit together."""
    return is_tuple(value, 1, 5) and is_plane(value[0]) and all([is_triple(item) for item in value[1:]])


def is_triple(value):
    """Whether a value is a tuple of three planes."""
    return is_tuple(value, 3, 3) and all([is_plane(item) for item in value])
