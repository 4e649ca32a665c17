"""The options of the codec."""

from bandpress.checks import is_integer, is_tuple, is_within
from bandpress.errors import BadOptions, NotOptions
from bandpress.kernels import long_kernel, short_kernel

KERNELS = ("short", "long")
MOST_LEVELS = 3
SIDES = (4, 8)
MOST_CUTS = 4
GREATEST_CUT = 94
LETTERS = "tcrl"
LONGEST_TILE_SIDE = 16
REGION_END = 100
GREATEST_SHIFT = 16


class Options:
    """The options of the codec, one property for each. They do not change."""

    def __init__(self, *, kernel="short", levels=2, side=4, cuts=(0,), order="tlrc", tile_height=16, tile_width=16,
                 colors=False, region=None, shift=0):
        options = {"kernel": kernel, "levels": levels, "side": side, "cuts": cuts, "order": order,
                   "tile_height": tile_height, "tile_width": tile_width, "colors": colors, "region": region,
                   "shift": shift}
        check_each(options)
        self._options = options

    @property
    def kernel(self):
        """The name of the kernel: "short" or "long"."""
        return self._options["kernel"]

    @property
    def levels(self):
        """How often tiles are split."""
        return self._options["levels"]

    @property
    def side(self):
        """The greatest height and width of a block."""
        return self._options["side"]

    @property
    def cuts(self):
        """The tuple that tells, for each layer, how many passes of each block are still missing behind it."""
        return self._options["cuts"]

    @property
    def order(self):
        """The letters t, c, r and l (tile, component, resolution, layer) in the order of progression."""
        return self._options["order"]

    @property
    def tile_height(self):
        """The greatest height of a tile."""
        return self._options["tile_height"]

    @property
    def tile_width(self):
        """The greatest width of a tile."""
        return self._options["tile_width"]

    @property
    def colors(self):
        """Whether the colors of pictures of three components are turned."""
        return self._options["colors"]

    @property
    def region(self):
        """The region (top, left, bottom, right) whose coefficients are shifted, or None."""
        return self._options["region"]

    @property
    def shift(self):
        """By how many binary digits the coefficients of the region are shifted."""
        return self._options["shift"]

    def changed(self, **more):
        """Options with some of these replaced."""
        for name in more:
            if name not in self._options:
                raise BadOptions(name)
        options = {**self._options, **more}
        return Options(**options)

    def __eq__(self, other):
        return isinstance(other, Options) and self._options == other._options


def is_kernel_name(value):
    """Whether a value is the name of a kernel of the codec."""
    return value in KERNELS


def is_level_count(value):
    """Whether a value may be the option levels."""
    return is_within(value, 0, MOST_LEVELS)


def is_side(value):
    """Whether a value may be the option side."""
    return is_integer(value) and value in SIDES


def are_cuts(value):
    """Whether a value may be the option cuts."""
    if not is_tuple(value, 1, MOST_CUTS):
        return False
    most = GREATEST_CUT
    for cut in value:
        if not is_within(cut, 0, most):
            return False
        most = cut
    return True


def is_order(value):
    """Whether a value may be the option order."""
    return isinstance(value, str) and sorted(value) == sorted(LETTERS)


def is_tile_side(value):
    """Whether a value may be the option tile_height or tile_width."""
    return is_within(value, 1, LONGEST_TILE_SIDE)


def is_answer(value):
    """Whether a value is True or False."""
    return isinstance(value, bool)


def is_region_or_none(value):
    """Whether a value may be the option region."""
    if value is None:
        return True
    if not is_tuple(value, 4, 4) or not all([is_within(end, 0, REGION_END) for end in value]):
        return False
    top, left, bottom, right = value
    return top < bottom and left < right


def is_shift(value):
    """Whether a value may be the option shift."""
    return is_within(value, 0, GREATEST_SHIFT)


CHECKS = {"kernel": is_kernel_name, "levels": is_level_count, "side": is_side, "cuts": are_cuts, "order": is_order,
          "tile_height": is_tile_side, "tile_width": is_tile_side, "colors": is_answer, "region": is_region_or_none,
          "shift": is_shift}


def check_each(options):
    """Raises BadOptions with the name of the first option of a dict that has a wrong value."""
    for name in CHECKS:
        is_right = CHECKS[name]
        if not is_right(options[name]):
            raise BadOptions(name)


def check_options(value):
    """Raises NotOptions for a value that is not options."""
    if not isinstance(value, Options):
        raise NotOptions("options are an object of the class Options")


def kernel_of(options):
    """The kernel of which options have the name."""
    if options.kernel == "short":
        return short_kernel()
    return long_kernel()
