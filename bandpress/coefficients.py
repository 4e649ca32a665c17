"""The coefficients of pictures, band by band, and which of them a region needs."""

from bandpress.colors import are_turned, turned_components
from bandpress.errors import NotApart
from bandpress.grids import cut_out, tiles_in
from bandpress.options import kernel_of
from bandpress.pictures import frame_of
from bandpress.pyramids import decompose
from bandpress.regions import region_masks


def band_planes(picture, options):
    """The dict of the planes of all bands by their keys (tile, component, resolution, band)."""
    frame = frame_of(picture)
    top, left, components = picture
    if are_turned(options, len(components)):
        components = turned_components(components)
    result = {}
    for tile, rectangle in enumerate(tiles_in(frame, options)):
        for number, component in enumerate(components):
            rows = cut_out((top, left, component), rectangle)
            plane = (rectangle[0][0], rectangle[1][0], rows)
            low, *triples = decompose(kernel_of(options), plane, options.levels)
            for resolution, bands in enumerate([(low,), *triples]):
                for band, coefficients in enumerate(bands):
                    result[(tile, number, resolution, band)] = coefficients
    return result


def tile_masks(frame, options):
    """The list of the masks of the region, one item for each tile, as `region_masks` tells them."""
    kernel = kernel_of(options)
    return [region_masks(kernel, options.levels, tile, options.region) for tile in tiles_in(frame, options)]


def masked_planes(picture, options):
    """The list of tuples (key, plane, mask) of all bands, the mask being that of the region."""
    planes = band_planes(picture, options)
    masks = tile_masks(frame_of(picture), options)
    return [(key, planes[key], masks[key[0]][key[2]][key[3]]) for key in planes]


def outside_size(plane, mask):
    """The greatest size of a coefficient of a band outside a mask, 0 if there is none."""
    top, left, rows = plane
    inner_rows, inner_columns = mask
    return max([abs(coefficient) for row, line in enumerate(rows) for column, coefficient in enumerate(line)
                if top + row not in inner_rows or left + column not in inner_columns], default=0)


def scaled(plane, mask, shift):
    """The plane with the coefficients in a mask multiplied by 2 ** shift."""
    top, left, rows = plane
    inner_rows, inner_columns = mask
    return top, left, tuple([
        tuple([coefficient << shift if top + row in inner_rows and left + column in inner_columns else coefficient
               for column, coefficient in enumerate(line)])
        for row, line in enumerate(rows)])


def coded_planes(picture, options):
    """The dict of the planes of all bands as they are coded: the region's coefficients are apart from the others."""
    if options.region is None:
        return band_planes(picture, options)
    result = {}
    for key, plane, mask in masked_planes(picture, options):
        if outside_size(plane, mask) >= 1 << options.shift:
            raise NotApart("a coefficient outside the mask is not less than 2 ** shift in size")
        result[key] = scaled(plane, mask, options.shift)
    return result
