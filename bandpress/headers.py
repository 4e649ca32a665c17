"""Headers of streams: the numbers of a frame and of options, one byte each."""

from bandpress.errors import BadStream
from bandpress.options import GREATEST_CUT, GREATEST_SHIFT, KERNELS, LETTERS, LONGEST_TILE_SIDE, MOST_CUTS, MOST_LEVELS
from bandpress.options import REGION_END, SIDES, Options
from bandpress.pictures import END, LONGEST_SIDE, MOST_COMPONENTS

MARK = (66, 80)
WITHOUT_REGION = 0
WITH_REGION = 4


class HeaderBytes:
    """Takes the bytes of a header, one after another; `position` is that of the next one."""

    def __init__(self, data):
        self._data = data
        self.position = 0

    def one_of(self, allowed):
        """The next byte; raises BadStream if it is not one of the allowed numbers, or if there is none."""
        if self.position >= len(self._data) or self._data[self.position] not in allowed:
            raise BadStream(self.position)
        self.position += 1
        return self._data[self.position - 1]

    def within(self, least, most):
        """The next byte, which is from least to most."""
        return self.one_of(list(range(least, most + 1)))


def header_of(frame, options):
    """The header of a stream."""
    region = (WITHOUT_REGION,)
    if options.region is not None:
        region = (WITH_REGION, *options.region)
    return (*MARK, *frame, KERNELS.index(options.kernel), options.levels, options.side,
            *[ord(letter) for letter in options.order], options.tile_height, options.tile_width,
            1 if options.colors else 0, options.shift, *region, len(options.cuts), *options.cuts)


def read_header(data):
    """The frame and the options that a header tells, and the position behind it."""
    source = HeaderBytes(data)
    for byte in MARK:
        source.one_of((byte,))
    frame = read_frame(source)
    kernel = KERNELS[source.within(0, len(KERNELS) - 1)]
    levels = source.within(0, MOST_LEVELS)
    side = source.one_of(SIDES)
    order = read_order(source)
    tile_height = source.within(1, LONGEST_TILE_SIDE)
    tile_width = source.within(1, LONGEST_TILE_SIDE)
    colors = source.within(0, 1) == 1
    shift = source.within(0, GREATEST_SHIFT)
    region = read_region(source)
    cuts = read_cuts(source)
    options = Options(kernel=kernel, levels=levels, side=side, cuts=cuts, order=order, tile_height=tile_height,
                      tile_width=tile_width, colors=colors, region=region, shift=shift)
    return frame, options, source.position


def read_frame(source):
    """The frame whose numbers come next."""
    top = source.within(0, END - 1)
    left = source.within(0, END - 1)
    height = source.within(1, min(LONGEST_SIDE, END - top))
    width = source.within(1, min(LONGEST_SIDE, END - left))
    return top, left, height, width, source.within(1, MOST_COMPONENTS)


def read_order(source):
    """The order whose letters come next."""
    order = ""
    for _ in LETTERS:
        left = [letter for letter in LETTERS if letter not in order]
        code = source.one_of([ord(letter) for letter in left])
        order = order + "".join([letter for letter in left if ord(letter) == code])
    return order


def read_region(source):
    """The region, or None, that comes next."""
    if source.one_of((WITHOUT_REGION, WITH_REGION)) == WITHOUT_REGION:
        return None
    top = source.within(0, REGION_END - 1)
    left = source.within(0, REGION_END - 1)
    bottom = source.within(top + 1, REGION_END)
    return top, left, bottom, source.within(left + 1, REGION_END)


def read_cuts(source):
    """The cuts that come next."""
    count = source.within(1, MOST_CUTS)
    cuts = []
    most = GREATEST_CUT
    for _ in range(count):
        most = source.within(0, most)
        cuts.append(most)
    return tuple(cuts)
