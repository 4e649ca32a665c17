"""The shift that a region needs."""

from bandpress.coefficients import masked_planes, outside_size
from bandpress.errors import BadOptions
from bandpress.options import check_options
from bandpress.pictures import check_picture


def least_shift(picture, options):
    """The least shift with which the region's coefficients are apart from all others."""
    check_picture(picture)
    check_options(options)
    if options.region is None:
        raise BadOptions("region")
    return max([outside_size(plane, mask) for _, plane, mask in masked_planes(picture, options)]).bit_length()
