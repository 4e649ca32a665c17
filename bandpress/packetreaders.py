"""How packets are read, bit by bit, and what they tell of the blocks of a picture.

BadBits is raised as for other bits: with their number if they end too early, and with None if they make no packet.
"""

from bandpress.bitstrings import HeardBits
from bandpress.blocks import passes_for
from bandpress.bytestrings import bits_of, is_byte_string
from bandpress.checks import is_tuple
from bandpress.errors import BadBits
from bandpress.grids import all_bands, block_parts, crossings, place_of
from bandpress.layout import is_key
from bandpress.numbercodes import number_from
from bandpress.packetwriters import PLANES_AND_MORE
from bandpress.segments import read_segments
from bandpress.tables import own_table
from bandpress.trees import Nodes, limits_of, visit


class ReadBlock:
    """What packets told of a block so far: its planes, and the passes and the byte strings of its segments."""

    def __init__(self, shape):
        self._shape = shape
        self._cuts = []
        self._segments = []
        self.planes = 0

    def came(self):
        """The number of passes that came."""
        return self._cuts[-1] if self._cuts != [] else 0

    def grow(self, planes, more, data):
        """Notes new passes, and the byte string of their segment."""
        self._cuts.append(self.came() + more)
        self._segments.append(data)
        self.planes = planes

    def ranges(self):
        """The rows of ranges that are known, or None if no pass came."""
        if self._cuts == []:
            return None
        return read_segments(own_table(), self._shape, self.planes, tuple(self._cuts), tuple(self._segments))


class ReadBand:
    """The blocks of a band, and the nodes of its tag tree."""

    def __init__(self, band, side):
        row_parts, column_parts = block_parts(band, side)
        self.width = len(column_parts)
        self.nodes = Nodes(len(row_parts), len(column_parts))
        self.blocks = [ReadBlock(place_of(block)[2:]) for block in crossings(row_parts, column_parts)]


class PictureReader:
    """Reads packets of a picture in the order of progression, or some of them of which each is usable."""

    def __init__(self, frame, options):
        self._bands = {}
        for key, band in all_bands(frame, options):
            self._bands.setdefault(key[:3], []).append((key, ReadBand(band, options.side)))

    def read(self, key, data, bits, position):
        """Reads the packet with a key at a position of a byte string, and returns the position behind it."""
        source = HeardBits(bits, 8 * position)
        news = []
        if source.bit() == 1:
            for _, band in self._bands[key[:3]]:
                for number in range(len(band.blocks)):
                    news.extend(read_news(band, number, key[3], source))
        behind = (source.behind + 7) // 8
        for block, planes, more, length in news:
            if behind + length > len(data):
                raise BadBits(len(bits))
            block.grow(planes, more, data[behind:behind + length])
            behind += length
        return behind

    def is_packet(self, key, data):
        """Reads a byte string as the packet with a key, and tells whether it is one."""
        try:
            return self.read(key, data, bits_of(data), 0) == len(data)
        except BadBits:
            return False

    def results(self):
        """The tuple of (key, passes, ranges) of all blocks, in ascending order."""
        return tuple([((*key, number), block.came(), block.ranges())
                      for stack in sorted(self._bands) for key, band in self._bands[stack]
                      for number, block in enumerate(band.blocks)])


def read_news(band, number, layer, source):
    """The list of one tuple (block, planes, new passes, bytes) if a block has new passes in a layer, or of none."""
    block = band.blocks[number]
    planes = block.planes
    if not hears_of_more(band, number, layer, source):
        return []
    if block.came() == 0:
        planes = PLANES_AND_MORE - number_from(source)
    more = 1 + number_from(source)
    if planes < 1 or block.came() + more > passes_for(planes):
        raise BadBits(None)
    return [(block, planes, more, number_from(source))]


def hears_of_more(band, number, layer, source):
    """Whether the next bits tell that a block has new passes in a layer."""
    if band.blocks[number].came() > 0:
        return source.bit() == 1
    row, column = divmod(number, band.width)
    visit(band.nodes, row, column, layer + 1, source)
    limits = limits_of(band.nodes)
    if limits is None:
        raise BadBits(None)
    return limits[row][column][0] <= layer


def is_keyed(value):
    """Whether a value is a tuple of what may be the key of a packet, and a byte string."""
    return is_tuple(value, 2, 2) and is_key(value[0]) and is_byte_string(value[1])
