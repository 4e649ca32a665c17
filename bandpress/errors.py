"""The errors of the package. Each tells by its class, and by its fields, what was wrong."""


class PressError(ValueError):
    """The base class of all errors of the package."""


# Core.

class NotRatio(PressError):
    """A value is not a ratio in lowest terms."""


class BadSpan(PressError):
    """A value is not a span."""


class BadLevels(PressError):
    """A value is not a number of levels."""


class BadKernel(PressError):
    """The steps of a kernel are wrong."""

    def __init__(self, index):
        super().__init__("the steps of a kernel are wrong")
        self.index = index


class NotKernel(PressError):
    """A value is not a kernel."""


class BadSignal(PressError):
    """A value is not a signal."""


class BadStage(PressError):
    """A value is not a number of steps of a kernel."""


class BadBands(PressError):
    """Values are not the bands of a signal or of a plane."""


class BadPlane(PressError):
    """A value is not a plane."""


class BadPyramid(PressError):
    """A value is not a pyramid."""


class TooMany(PressError):
    """There are more things than are allowed."""

    def __init__(self, most):
        super().__init__("there are more things than are allowed")
        self.most = most


# Filters and quantizers.

class BadStep(PressError):
    """A value is not a step size."""


class BadPosition(PressError):
    """A value is not a position or a place."""


class BadNumber(PressError):
    """A value is not a number in its range."""


class BadShare(PressError):
    """A value is not a share of a step."""


class BadBounds(PressError):
    """Bounds of errors are wrong."""

    def __init__(self, index):
        super().__init__("bounds of errors are wrong")
        self.index = index


class BadValues(PressError):
    """Values are wrong."""

    def __init__(self, index):
        super().__init__("values are wrong")
        self.index = index


class BadCells(PressError):
    """Cells are not a partition of the values."""

    def __init__(self, index):
        super().__init__("cells are not a partition of the values")
        self.index = index


class BadCenters(PressError):
    """Centers are wrong."""

    def __init__(self, index):
        super().__init__("centers are wrong")
        self.index = index


# Coder.

class BadTable(PressError):
    """The states of a table are wrong."""

    def __init__(self, index):
        super().__init__("the states of a table are wrong")
        self.index = index


class NotTable(PressError):
    """A value is not a table."""


class BadPairs(PressError):
    """Pairs of bits and contexts are wrong."""

    def __init__(self, index):
        super().__init__("pairs of bits and contexts are wrong")
        self.index = index


class BadBit(PressError):
    """A value is not a bit."""


class BadContext(PressError):
    """A value is not a context."""


class BadBytes(PressError):
    """A value is not a byte string."""

    def __init__(self, index):
        super().__init__("a value is not a byte string")
        self.index = index


class BadContexts(PressError):
    """Contexts are wrong."""

    def __init__(self, index):
        super().__init__("contexts are wrong")
        self.index = index


# Blocks.

class BadBlock(PressError):
    """A value is not a block."""


class BadPasses(PressError):
    """A value is not a number of passes, or of a pass."""


class BadRanges(PressError):
    """A value is not rows of ranges."""


class BadShape(PressError):
    """A value is not the shape of a block or of a tree."""


class BadPlanes(PressError):
    """A value is not a number of bit planes."""


class BadCuts(PressError):
    """The cuts of a block are wrong."""

    def __init__(self, index):
        super().__init__("the cuts of a block are wrong")
        self.index = index


class BadSegments(PressError):
    """The segments of a block are wrong."""

    def __init__(self, index):
        super().__init__("the segments of a block are wrong")
        self.index = index


# Tag trees.

class BadTree(PressError):
    """A value is not the values of a tag tree."""


class BadLeaf(PressError):
    """Values are not the row and the column of a leaf."""


class BadThreshold(PressError):
    """A value is not a threshold."""


class BadQueries(PressError):
    """Queries of a tag tree are wrong."""

    def __init__(self, index):
        super().__init__("queries of a tag tree are wrong")
        self.index = index


class BadBits(PressError):
    """Bits are wrong."""

    def __init__(self, index):
        super().__init__("bits are wrong")
        self.index = index


# Pictures.

class BadPicture(PressError):
    """A value is not a picture."""

    def __init__(self, index):
        super().__init__("a value is not a picture")
        self.index = index


class BadFrame(PressError):
    """A value is not a frame."""


class BadOptions(PressError):
    """An option is wrong."""

    def __init__(self, name):
        super().__init__("an option is wrong")
        self.name = name


class NotOptions(PressError):
    """A value is not options."""


class NotApart(PressError):
    """A coefficient outside the mask is too great for the shift."""


class BadPackets(PressError):
    """Packets are wrong."""

    def __init__(self, index):
        super().__init__("packets are wrong")
        self.index = index


class BadStream(PressError):
    """A byte string is not a stream."""

    def __init__(self, position):
        super().__init__("a byte string is not a stream")
        self.position = position


# Changes.

class BadKeys(PressError):
    """Keys of packets are wrong."""

    def __init__(self, index):
        super().__init__("keys of packets are wrong")
        self.index = index


class BadTiles(PressError):
    """A value is not a rectangle of tiles."""


class BadColors(PressError):
    """Color steps are wrong."""

    def __init__(self, index):
        super().__init__("color steps are wrong")
        self.index = index


class BadPixel(PressError):
    """A value is not a pixel."""


class BadPositions(PressError):
    """Positions of a span are wrong."""

    def __init__(self, index):
        super().__init__("positions of a span are wrong")
        self.index = index


class NothingToUndo(PressError):
    """There is no step that can be taken back."""


# Rates.

class BadPoints(PressError):
    """The points of blocks are wrong."""

    def __init__(self, block, index):
        super().__init__("the points of blocks are wrong")
        self.block = block
        self.index = index


class BadChoice(PressError):
    """A value is not a choice."""


class BadSlope(PressError):
    """A value is not a slope."""


class BadSlopes(PressError):
    """Slopes are wrong."""

    def __init__(self, index):
        super().__init__("slopes are wrong")
        self.index = index


class BadSize(PressError):
    """A value is not a size."""
