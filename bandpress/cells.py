"""What is known of the cells of a block while their digits are coded, and the contexts that follow from it."""

BESIDE = ((0, -1), (0, 1))
ABOVE_AND_BELOW = ((-1, 0), (1, 0))
DIAGONAL = ((-1, -1), (-1, 1), (1, -1), (1, 1))
FIRST_SIGN_CONTEXT = 9
FIRST_DIGIT_ALONE = 12
FIRST_DIGIT_AMONG_OTHERS = 13
LATER_DIGIT = 14


class Cells:
    """The cells (row, column) of a block, and dicts that tell what was coded of each of them so far."""

    def __init__(self, height, width, planes):
        self.height = height
        self.width = width
        self.planes = planes
        self.in_order = [(row, column) for row in range(height) for column in range(width)]
        self.lowest = {cell: planes for cell in self.in_order}
        self.sizes = {cell: 0 for cell in self.in_order}
        self.signs = {}
        self.refined = {}

    def add_digit(self, cell, plane, digit):
        """Notes the digit of a cell in the next plane."""
        if cell in self.signs:
            self.refined[cell] = True
        self.lowest[cell] = plane
        self.sizes[cell] += digit << plane

    def add_sign(self, cell, sign):
        """Notes the sign, 1 or -1, of a cell, which becomes significant by this."""
        self.signs[cell] = sign


def significant_among(cells, cell, offsets):
    """The list of the signs of the significant ones of some neighbors of a cell."""
    row, column = cell
    around = [(row + down, column + right) for down, right in offsets]
    return [cells.signs[neighbor] for neighbor in around if neighbor in cells.signs]


def has_significant_neighbor(cells, cell):
    """Whether a neighbor of a cell is significant."""
    return significant_among(cells, cell, (*BESIDE, *ABOVE_AND_BELOW, *DIAGONAL)) != []


def digit_context(cells, cell):
    """The context of the next digit of a cell."""
    if cell in cells.refined:
        return LATER_DIGIT
    if cell in cells.signs:
        return FIRST_DIGIT_AMONG_OTHERS if has_significant_neighbor(cells, cell) else FIRST_DIGIT_ALONE
    near = len(significant_among(cells, cell, (*BESIDE, *ABOVE_AND_BELOW)))
    far = len(significant_among(cells, cell, DIAGONAL))
    return 3 * min(near, 2) + min(far, 2)


def sign_tendency(cells, cell):
    """The sum t, from -2 to 2, of what the neighbors in the row and in the column tell of the sign of a cell."""
    return limited_sum(cells, cell, BESIDE) + limited_sum(cells, cell, ABOVE_AND_BELOW)


def limited_sum(cells, cell, offsets):
    """The sum of the signs of two neighbors, limited to -1 at least and 1 at most."""
    return max(-1, min(1, sum(significant_among(cells, cell, offsets))))


def ranges_of(cells):
    """The rows of the ranges (least, most) that are known of the cells."""
    return tuple([tuple([range_of(cells, (row, column)) for column in range(cells.width)])
                  for row in range(cells.height)])


def range_of(cells, cell):
    """The range that is known of a cell."""
    open_part = (1 << cells.lowest[cell]) - 1
    if cell not in cells.signs:
        return -open_part, open_part
    least = cells.sizes[cell]
    if cells.signs[cell] < 0:
        return -least - open_part, -least
    return least, least + open_part
