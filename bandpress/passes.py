"""The passes of a block: their cells, their bits and contexts, and what is known after them."""

from bandpress.blocks import pass_count
from bandpress.cells import ranges_of
from bandpress.checks import is_within
from bandpress.errors import BadPasses
from bandpress.scans import BlockBits, cells_after, code_pass, pairs_of_passes


def pass_cells(block, number):
    """The list of the cells (row, column) that a pass codes, in order."""
    check_pass(block, number)
    return code_pass(cells_after(block, number), number, BlockBits(block))


def decisions(block, number):
    """The tuple of the pairs (bit, context) that a pass codes, in order."""
    check_pass(block, number)
    return pairs_of_passes(block, number + 1)[number]


def known(block, passes):
    """The rows of the ranges that are known after the first passes of a block."""
    if not is_within(passes, 0, pass_count(block)):
        raise BadPasses("passes is an integer from 0 to the number of passes")
    return ranges_of(cells_after(block, passes))


def check_pass(block, number):
    """Raises BadBlock, or BadPasses for a value that is not the number of a pass of the block."""
    if not is_within(number, 0, pass_count(block) - 1):
        raise BadPasses("a pass of a block has a number from 0 on, less than the number of passes")
