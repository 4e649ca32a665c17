"""How packets are written: for each tile, component and resolution, one in each layer."""

from bandpress.blocks import passes_for, plane_count
from bandpress.bytestrings import bytes_of
from bandpress.numbercodes import number_bits
from bandpress.segments import segments
from bandpress.tables import own_table
from bandpress.tagtrees import TagWriter

PLANES_AND_MORE = 32


class CodedBlock:
    """What packets tell of a block: its planes, its passes behind each layer, and its segments."""

    def __init__(self, block, cuts):
        self.planes = plane_count(block)
        count = passes_for(self.planes)
        self.passes = tuple([max(0, count - cut) for cut in cuts])
        self.segments = segments(own_table(), block, self.passes)

    def before(self, layer):
        """The number of its passes behind the layer before a layer."""
        return 0 if layer == 0 else self.passes[layer - 1]

    def more(self, layer):
        """The number of its passes that are new in a layer."""
        return self.passes[layer] - self.before(layer)

    def first_layer(self):
        """The first layer behind which it has a pass, or the number of layers if there is none."""
        return len([count for count in self.passes if count == 0])


class PacketWriter:
    """Writes the packets of a tile, component and resolution, one layer after another.

    bands has, for each band, a tuple (width, blocks): the list of its blocks, each a CodedBlock, and how many of them
    stand side by side.
    """

    def __init__(self, bands):
        self._bands = [(width, blocks) for width, blocks in bands if blocks != []]
        self._trees = [TagWriter(first_layers(width, blocks)) for width, blocks in self._bands]

    def packet(self, layer):
        """The byte string of the packet of a layer."""
        growing = [block for _, blocks in self._bands for block in blocks if block.more(layer) > 0]
        if growing == []:
            return bytes_of((0,))
        bits = [1]
        for (width, blocks), tree in zip(self._bands, self._trees):
            for number, block in enumerate(blocks):
                bits.extend(news_bits(block, layer, tree, number // width, number % width))
        return (*bytes_of(bits), *[byte for block in growing for byte in block.segments[layer]])


def first_layers(width, blocks):
    """The values of the tag tree of a band."""
    layers = [block.first_layer() for block in blocks]
    return tuple([tuple(layers[start:start + width]) for start in range(0, len(layers), width)])


def news_bits(block, layer, tree, row, column):
    """The list of the bits that tell whether a block has more passes in a layer, and how many."""
    more = block.more(layer)
    if block.before(layer) > 0:
        bits = [1 if more > 0 else 0]
    else:
        bits = list(tree.ask(row, column, layer + 1))
    if more > 0:
        if block.before(layer) == 0:
            bits.extend(number_bits(PLANES_AND_MORE - block.planes))
        bits.extend(number_bits(more - 1))
        bits.extend(number_bits(len(block.segments[layer])))
    return bits
