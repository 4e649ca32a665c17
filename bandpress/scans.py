"""Passes over the cells of a block: which cells they code, and where the bits come from."""

from bandpress.blocks import plane_count
from bandpress.cells import FIRST_SIGN_CONTEXT, Cells, digit_context, has_significant_neighbor, sign_tendency

SIGNIFICANCE = 0
REFINEMENT = 1


class BlockBits:
    """Tells the bits of a block, and keeps the pairs (bit, context) that it told in the list `told`."""

    def __init__(self, block):
        self._block = block
        self.told = []

    def digit(self, cell, plane, context):
        """The digit of a cell in a plane."""
        row, column = cell
        bit = (abs(self._block[row][column]) >> plane) & 1
        self.told.append((bit, context))
        return bit

    def sign_bit(self, cell, is_turned, context):
        """The bit of the sign of a cell, which is 1 for a negative one, or for a positive one if it is turned."""
        row, column = cell
        is_negative = self._block[row][column] < 0
        bit = 1 if is_negative != is_turned else 0
        self.told.append((bit, context))
        return bit


class DecodedBits:
    """Takes the bits from a decoder, which needs to be told the contexts alone."""

    def __init__(self, decoder):
        self._decoder = decoder

    def digit(self, cell, plane, context):
        """The digit of a cell in a plane."""
        return self._decoder.take(context)

    def sign_bit(self, cell, is_turned, context):
        """The bit of the sign of a cell."""
        return self._decoder.take(context)


def cells_of(block):
    """The cells of a block of which nothing was coded yet."""
    return Cells(len(block), len(block[0]), plane_count(block))


def code_pass(cells, number, source):
    """Codes a pass with the bits of a source, and returns the list of the cells that it codes."""
    # The first plane has the last kind of pass alone, so two passes seem to come before it.
    plane_index, kind = divmod(number + 2, 3)
    plane = cells.planes - 1 - plane_index
    coded = []
    for cell in cells.in_order:
        if is_due(cells, cell, plane, kind):
            code_cell(cells, cell, plane, source)
            coded.append(cell)
    return coded


def is_due(cells, cell, plane, kind):
    """Whether a pass of this kind codes a cell, all cells before it having been visited."""
    if cells.lowest[cell] == plane:
        return False
    if kind == SIGNIFICANCE:
        return cell not in cells.signs and has_significant_neighbor(cells, cell)
    # A cell that became significant in this plane was coded in it, so all others were significant before.
    return kind != REFINEMENT or cell in cells.signs


def code_cell(cells, cell, plane, source):
    """Codes the digit of a cell in a plane, and its sign if it becomes significant by this digit."""
    digit = source.digit(cell, plane, digit_context(cells, cell))
    cells.add_digit(cell, plane, digit)
    if digit == 1 and cell not in cells.signs:
        tendency = sign_tendency(cells, cell)
        is_turned = tendency < 0
        bit = source.sign_bit(cell, is_turned, FIRST_SIGN_CONTEXT + abs(tendency))
        cells.add_sign(cell, -1 if (bit == 1) != is_turned else 1)


def cells_after(block, passes):
    """The cells of a block after its first passes."""
    cells = cells_of(block)
    for number in range(passes):
        code_pass(cells, number, BlockBits(block))
    return cells


def pairs_of_passes(block, passes):
    """The list of the tuples of pairs that the first passes of a block code, one tuple for each pass."""
    cells = cells_of(block)
    result = []
    for number in range(passes):
        source = BlockBits(block)
        code_pass(cells, number, source)
        result.append(tuple(source.told))
    return result
