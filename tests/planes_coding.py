"""The passes over a block once more, word by word from the document; and blocks to try.

The tests compare the package with it. It shares nothing with the package.
"""

import random

AROUND = [(i, j) for i in (-1, 0, 1) for j in (-1, 0, 1) if (i, j) != (0, 0)]


class Walk:
    """Codes the passes of a block, one after another.

    ask(wanted, context) is called for each bit and returns it. wanted is the bit that the block has there. To decode,
    the block is not known, and wanted is None.
    """

    def __init__(self, height, width, planes, ask, block=None):
        self.shape, self.planes, self.ask, self.block = (height, width), planes, ask, block
        self.significant, self.digits, self.coded_down_to = {}, {}, {}
        self.coded_since = set()
        for r in range(height):
            for c in range(width):
                self.digits[r, c] = 0
                self.coded_down_to[r, c] = planes

    def run(self, count, before_pass=lambda number: None):
        """Codes the first passes, and returns the list of the lists of their cells."""
        result = []
        for p in range(self.planes - 1, -1, -1):
            before = set(self.significant)
            in_plane = set()
            for kind in ("cleanup",) if p == self.planes - 1 else ("significance", "refinement", "cleanup"):
                if len(result) == count:
                    return result
                before_pass(len(result))
                result.append(self.one_pass(kind, p, before, in_plane))
        return result

    def one_pass(self, kind, p, before, in_plane):
        cells = []
        for cell in sorted(self.digits):
            if kind == "significance":
                goes = cell not in self.significant and self.neighbors(cell, AROUND)
            elif kind == "refinement":
                goes = cell in before
            else:
                goes = cell not in in_plane
            if goes:
                cells.append(cell)
                in_plane.add(cell)
                self.code(cell, p)
        return cells

    def neighbors(self, cell, offsets):
        """The significant neighbors of a cell at some offsets."""
        around = [(cell[0] + i, cell[1] + j) for i, j in offsets]
        return [other for other in around if other in self.significant]

    def code(self, cell, p):
        h = len(self.neighbors(cell, [(0, -1), (0, 1), (-1, 0), (1, 0)]))
        d = len(self.neighbors(cell, [(-1, -1), (-1, 1), (1, -1), (1, 1)]))
        was_significant = cell in self.significant
        if not was_significant:
            context = 3 * min(h, 2) + min(d, 2)
        elif cell in self.coded_since:
            context = 14
        else:
            context = 13 if h + d else 12
        wanted = None
        if self.block is not None:
            wanted = abs(self.block[cell[0]][cell[1]]) // 2 ** p % 2
        digit = self.ask(wanted, context)
        self.digits[cell] += digit * 2 ** p
        self.coded_down_to[cell] = p
        if was_significant:
            self.coded_since.add(cell)
        elif digit == 1:
            self.code_sign(cell)

    def code_sign(self, cell):
        t = 0
        for offsets in ([(0, -1), (0, 1)], [(-1, 0), (1, 0)]):
            signs = sum(self.significant[other] for other in self.neighbors(cell, offsets))
            t += -1 if signs < 0 else 1 if signs > 0 else 0
        wanted = None
        if self.block is not None:
            wanted = 1 if self.block[cell[0]][cell[1]] < 0 else 0
            if t < 0:
                wanted = 1 - wanted
        bit = self.ask(wanted, 9 + abs(t))
        if t < 0:
            bit = 1 - bit
        self.significant[cell] = -1 if bit == 1 else 1

    def ranges(self):
        height, width = self.shape
        return tuple(tuple(self.range_of((r, c)) for c in range(width)) for r in range(height))

    def range_of(self, cell):
        rest = 2 ** self.coded_down_to[cell] - 1
        if cell not in self.significant:
            return -rest, rest
        m = self.digits[cell]
        return (m, m + rest) if self.significant[cell] == 1 else (-(m + rest), -m)


def planes_of(block):
    """The number of binary digits of the greatest size."""
    greatest = max(max(abs(value) for value in row) for row in block)
    planes = 0
    while 2 ** planes <= greatest:
        planes += 1
    return planes


def count_of(planes):
    """The number of passes."""
    return 3 * planes - 2 if planes else 0


def coded_block(block, count):
    """The cells, the pairs, and the ranges: of and after the first passes of a block."""
    pairs = []

    def ask(wanted, context):
        pairs.append((wanted, context))
        return wanted

    walk = Walk(len(block), len(block[0]), planes_of(block), ask, block)
    cells = walk.run(count)
    return cells, pairs, walk.ranges()


def pairs_by_pass(block):
    """The list of the tuples of pairs of all passes."""
    count = count_of(planes_of(block))
    ends = [len(coded_block(block, k)[1]) for k in range(count + 1)]
    pairs = coded_block(block, count)[1]
    return [tuple(pairs[ends[k]:ends[k + 1]]) for k in range(count)]


def some_block(seed):
    """A block, of one cell to 8 by 8, whose coefficients are next to 0 or great, or some of both."""
    source = random.Random(4000 + seed)
    height, width = source.choice(((1, 1), (1, 8), (8, 1), (8, 8), (2, 3), (5, 4)))
    sizes = source.choice(((0, 1), (0, 0, 0, 1, 2, 5), (0, 0, 30, 255), (3, 70, 2 ** 12), (0, 2 ** 32 - 1)))
    return tuple(tuple(source.choice((-1, 1)) * source.randint(0, source.choice(sizes)) for _ in range(width))
                 for _ in range(height))


MOST = 2 ** 32 - 1
BLOCKS = (
    ((0,),), ((1,),), ((-1,),), ((MOST,),), ((-MOST,),), ((2 ** 31,),), ((-2 ** 31 + 1,),), ((5, 0, -3),),
    ((0,) * 8,) * 8, ((0,) * 3,) * 2, ((1,) * 8,) * 8, ((-1,) * 8,) * 8, ((MOST,) * 8,) * 8,
    ((1, -1, 1), (-1, 1, -1), (1, -1, 1)),
    ((0, 0, 0), (0, -6, 0), (0, 0, 0)),
    ((9, 0, 0, 1), (0, 0, 1, 0), (0, 1, 0, -4), (2, 0, 0, 0)),
    ((4, 1, 1, 1, 1, 1, 1, 1),), ((4,), (1,), (-1,), (1,), (-1,)), ((-4, 2, -1, 3, 0, 7),),
    *(some_block(seed) for seed in range(30)),
)
