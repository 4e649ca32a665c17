"""Segments: the byte strings of the layers of a block, and how many bytes its passes need."""

from bandpress.adapting import Contexts
from bandpress.blocks import MOST_PLANES, pass_count, passes_for
from bandpress.bytestrings import is_byte_string
from bandpress.cells import Cells, ranges_of
from bandpress.checks import first_wrong, is_tuple, is_within
from bandpress.encoders import Decoder, Encoder
from bandpress.errors import BadCuts, BadPlanes, BadSegments
from bandpress.intervals import Interval, code_bit, shortest_code
from bandpress.scans import DecodedBits, code_pass, pairs_of_passes
from bandpress.shapes import check_shape
from bandpress.tables import check_table


def segments(table, block, cuts):
    """The tuple of the byte strings of the layers, one for each of the cuts."""
    check_table(table)
    check_cuts(cuts, pass_count(block))
    passes = pairs_of_passes(block, cuts[-1])
    encoder = Encoder(table)
    result = []
    start = 0
    for cut in cuts:
        for pairs in passes[start:cut]:
            encoder.put_all(*pairs)
        result.append(encoder.flush())
        start = cut
    return tuple(result)


def read_segments(table, shape, planes, cuts, segments):
    """The rows of the ranges that are known after all layers, decoded from any byte strings."""
    check_table(table)
    check_shape(shape)
    check_planes(planes)
    check_cuts(cuts, passes_for(planes))
    check_segments(segments, len(cuts))
    height, width = shape
    cells = Cells(height, width, planes)
    decoder = Decoder(table)
    start = 0
    for cut, data in zip(cuts, segments):
        decoder.feed(data)
        for number in range(start, cut):
            code_pass(cells, number, DecodedBits(decoder))
        start = cut
    return ranges_of(cells)


def pass_sizes(table, block):
    """The number of bytes of the first passes as one layer, for each number of passes from 0 on."""
    check_table(table)
    count = pass_count(block)
    interval = Interval()
    contexts = Contexts(table)
    sizes = [0]
    for pairs in pairs_of_passes(block, count):
        for bit, context in pairs:
            code_bit(interval, contexts, bit, context)
        sizes.append(len(shortest_code(interval)))
    return tuple(sizes)


def check_planes(value):
    """Raises BadPlanes for a value that is not a number of bit planes."""
    if not is_within(value, 0, MOST_PLANES):
        raise BadPlanes("planes is an integer from 0 to 32")


def check_cuts(value, most):
    """Raises BadCuts for a value that is not 1 to 8 numbers of passes, up to most, that do not fall."""
    if not is_tuple(value, 1, 8):
        raise BadCuts(None)
    least = 0
    for index, cut in enumerate(value):
        if not is_within(cut, least, most):
            raise BadCuts(index)
        least = cut


def check_segments(value, many):
    """Raises BadSegments for a value that is not a tuple of so many byte strings."""
    if not is_tuple(value, many, many):
        raise BadSegments(None)
    wrong = first_wrong(value, is_byte_string)
    if wrong is not None:
        raise BadSegments(wrong)
