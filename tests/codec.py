"""The codec once more, word by word from the document, with dicts of positions and strings of bits.

The tests compare the package with it. It shares nothing with the package. Options are dicts with all their names.
"""

import itertools
import math
from fractions import Fraction

from tests import coding, planes_coding, reference, trees
from tests.samples import LONG, SHORT

DEFAULTS = {"kernel": "short", "levels": 2, "side": 4, "cuts": (0,), "order": "tlrc", "tile_height": 16,
            "tile_width": 16, "colors": False, "region": None, "shift": 0}
OWN_COLORS = ((0, (0, 0, -1), 0), (2, (1, 0, 0), 1), (1, (0, 0, -1), 0), (2, (0, 1, 0), 1))


class NotApart(Exception):
    """A coefficient outside the mask is too great."""


class EndsEarly(Exception):
    """Bits end too early."""


class NoPacket(Exception):
    """Bits that cannot be."""


def steps_of(o):
    return {"short": SHORT, "long": LONG}[o["kernel"]]


def frame_of(picture):
    top, left, components = picture
    return top, left, len(components[0]), len(components[0][0]), len(components)


# Where things are.

def groups(positions, side):
    """The lists of the positions that lie in the same part of a grid anchored at 0."""
    return [list(group) for _, group in itertools.groupby(positions, lambda position: position // side)]


def tiles(frame, o):
    """The list of the tiles: tuples of the lists of their rows and columns."""
    top, left, height, width, _ = frame
    return list(itertools.product(groups(range(top, top + height), o["tile_height"]),
                                  groups(range(left, left + width), o["tile_width"])))


def grid_shape(frame, o):
    """How many rows and columns of tiles there are."""
    top, left, height, width, _ = frame
    return len(groups(range(top, top + height), o["tile_height"])), len(groups(range(left, left + width),
                                                                               o["tile_width"]))


def evens(positions):
    return [i // 2 for i in positions if i % 2 == 0]


def odds(positions):
    return [(i - 1) // 2 for i in positions if i % 2 == 1]


def bands(tile, o):
    """The dict by (resolution, band) of the lists of the rows and columns of the bands of a tile."""
    rows, columns = tile
    result = {}
    for number in range(1, o["levels"] + 1):
        r = o["levels"] - number + 1
        result[r, 0] = (evens(rows), odds(columns))
        result[r, 1] = (odds(rows), evens(columns))
        result[r, 2] = (odds(rows), odds(columns))
        rows, columns = evens(rows), evens(columns)
    result[0, 0] = (rows, columns)
    return {key: result[key] for key in sorted(result)}


def blocks(band, o):
    """The list of the blocks of a band: tuples of the lists of their rows and columns."""
    rows, columns = band
    return list(itertools.product(groups(rows, o["side"]), groups(columns, o["side"])))


def all_blocks(frame, o):
    """The list of tuples (key, block) of all blocks."""
    return [((t, c, r, b, k), block)
            for t, tile in enumerate(tiles(frame, o)) for c in range(frame[4])
            for (r, b), band in bands(tile, o).items() for k, block in enumerate(blocks(band, o))]


def place(rows, columns):
    return rows[0], columns[0], len(rows), len(columns)


def keys(frame, o):
    """The keys of all packets in the order of progression."""
    many = {"t": len(tiles(frame, o)), "c": frame[4], "r": o["levels"] + 1, "l": len(o["cuts"])}
    result = []
    for numbers in itertools.product(*(range(many[letter]) for letter in o["order"])):
        told = dict(zip(o["order"], numbers))
        result.append((told["t"], told["c"], told["r"], told["l"]))
    return result


# Colors and regions.

def turned(steps, pixel):
    """A pixel after color steps."""
    numbers = list(pixel)
    for target, weights, shift in steps:
        numbers[target] += color_sum(weights, shift, numbers)
    return tuple(numbers)


def turned_back(steps, pixel):
    """The pixel from which color steps lead to this one."""
    numbers = list(pixel)
    for target, weights, shift in reversed(steps):
        numbers[target] -= color_sum(weights, shift, numbers)
    return tuple(numbers)


def color_sum(weights, shift, numbers):
    h = 0 if shift == 0 else 2 ** (shift - 1)
    return math.floor(Fraction(sum(w * n for w, n in zip(weights, numbers)) + h, 2 ** shift))


def recolored(components, change):
    """Three components with all pixels changed."""
    height, width = len(components[0]), len(components[0][0])
    pixels = {(i, j): change(OWN_COLORS, tuple(component[i][j] for component in components))
              for i in range(height) for j in range(width)}
    return tuple(tuple(tuple(pixels[i, j][k] for j in range(width)) for i in range(height)) for k in range(3))


def are_turned(frame, o):
    return o["colors"] and frame[4] == 3


def needs(steps, first, last, position, number=0):
    """The positions of the coefficients from which the sample at a position comes, before a step."""
    if number == len(steps):
        return {position}
    result = needs(steps, first, last, position, number + 1)
    if position % 2 != number % 2 and first != last:
        for j, weight in enumerate(steps[number][0]):
            if weight != 0:
                for other in (position - 1 - 2 * j, position + 1 + 2 * j):
                    result |= needs(steps, first, last, reference.mirror(other, first, last), number + 1)
    return result


def support(steps, positions, some):
    """The sets of the indexes of the low and the high coefficients that some of all positions need."""
    found = set()
    for position in some:
        found |= needs(steps, positions[0], positions[-1], position)
    return set(evens(found)), set(odds(found))


def masks(tile, o, some_rows, some_columns):
    """The dict by (resolution, band) of the places (row, column) that some rows and columns of a tile need."""
    rows, columns = tile
    if not some_rows or not some_columns:
        some_rows, some_columns = set(), set()
    result = {}
    for number in range(1, o["levels"] + 1):
        r = o["levels"] - number + 1
        low_rows, high_rows = support(steps_of(o), rows, some_rows)
        low_columns, high_columns = support(steps_of(o), columns, some_columns)
        result[r, 0] = set(itertools.product(low_rows, high_columns))
        result[r, 1] = set(itertools.product(high_rows, low_columns))
        result[r, 2] = set(itertools.product(high_rows, high_columns))
        rows, columns, some_rows, some_columns = evens(rows), evens(columns), low_rows, low_columns
    result[0, 0] = set(itertools.product(some_rows, some_columns))
    return result


def region_masks(tile, o):
    """The masks of the region in a tile."""
    top, left, bottom, right = o["region"]
    return masks(tile, o, {i for i in tile[0] if top <= i < bottom}, {j for j in tile[1] if left <= j < right})


# Coefficients.

def coefficients(picture, o):
    """The dict by (tile, component, resolution, band) of dicts of the coefficients of a picture by (row, column)."""
    top, left, components = picture
    if are_turned(frame_of(picture), o):
        components = recolored(components, turned)
    result = {}
    for t, (rows, columns) in enumerate(tiles(frame_of(picture), o)):
        for c, component in enumerate(components):
            plane = (rows[0], columns[0], tuple(tuple(component[i - top][j - left] for j in columns) for i in rows))
            for number in range(1, o["levels"] + 1):
                plane, *high = reference.split(steps_of(o), *plane)
                for b, band in enumerate(high):
                    result[t, c, o["levels"] - number + 1, b] = as_dict(band)
            result[t, c, 0, 0] = as_dict(plane)
    return result


def as_dict(plane):
    top, left, rows = plane
    return {(top + i, left + j): value for i, row in enumerate(rows) for j, value in enumerate(row)}


def scaled_coefficients(picture, o):
    """The coefficients with those of the region multiplied."""
    result = coefficients(picture, o)
    if o["region"] is not None:
        for (t, c, r, b), band in result.items():
            mask = region_masks(tiles(frame_of(picture), o)[t], o)[r, b]
            for at in band:
                if at in mask:
                    band[at] *= 2 ** o["shift"]
                elif abs(band[at]) >= 2 ** o["shift"]:
                    raise NotApart
    return result


def greatest_outside(picture, o):
    """The greatest size of a coefficient outside the mask, 0 if there is none."""
    sizes = [0]
    for (t, _, r, b), band in coefficients(picture, o).items():
        mask = region_masks(tiles(frame_of(picture), o)[t], o)[r, b]
        sizes += [abs(value) for at, value in band.items() if at not in mask]
    return max(sizes)


def picture_blocks(picture, o):
    """The list of tuples (key, block)."""
    found = scaled_coefficients(picture, o)
    return [(key, tuple(tuple(found[key[:4]][i, j] for j in columns) for i in rows))
            for key, (rows, columns) in all_blocks(frame_of(picture), o)]


# Writing.

def pairs_by_pass(block):
    """The list of the lists of the pairs of all passes of a block."""
    result = []

    def ask(wanted, context):
        result[-1].append((wanted, context))
        return wanted

    planes = planes_coding.planes_of(block)
    walk = planes_coding.Walk(len(block), len(block[0]), planes, ask, block)
    walk.run(planes_coding.count_of(planes), lambda number: result.append([]))
    return result


def passes_behind(block, o):
    """The numbers of passes behind the layers."""
    n = planes_coding.count_of(planes_coding.planes_of(block))
    return [max(0, n - cut) for cut in o["cuts"]]


def segments(block, o):
    """The byte strings of the layers of a block."""
    pairs = pairs_by_pass(block)
    code = coding.Coding(coding.OWN_STATES)
    result, start = [], 0
    for stop in passes_behind(block, o):
        code.begin()
        for told in pairs[start:stop]:
            for bit, context in told:
                code.code(bit, context)
        result.append(coding.shortest(*code.ends()))
        start = stop
    return result


def number_bits(number):
    digits = f"{number + 1:b}"
    return "1" * (len(digits) - 1) + "0" + digits[1:]


def pack(picture, o):
    """The packets of a picture."""
    frame = frame_of(picture)
    told = dict(picture_blocks(picture, o))
    stacks = {}
    for (t, c, r, b, k), block in told.items():
        stacks.setdefault((t, c, r), {}).setdefault(b, []).append((passes_behind(block, o), block, segments(block, o)))
    queries = {}
    packets = []
    for t, c, r, l in keys(frame, o):
        shapes = {b: (len(groups(rows, o["side"])), len(groups(columns, o["side"])))
                  for (q, b), (rows, columns) in bands(tiles(frame, o)[t], o).items() if q == r}
        packets.append(((t, c, r, l), packet(stacks.get((t, c, r), {}), shapes, l, o,
                                             queries.setdefault((t, c, r), {}))))
    return tuple(packets)


def packet(stack, shapes, l, o, queries):
    """The byte string of a packet."""
    layers = len(o["cuts"])
    if not any(now[l] > (now[l - 1] if l else 0) for band in stack.values() for now, _, _ in band):
        return (0,)
    bits, data = "1", ()
    for b in sorted(stack):
        height, width = shapes[b]
        firsts = [next((k for k in range(layers) if now[k] > 0), layers) for now, _, _ in stack[b]]
        levels = trees.levels_of([firsts[width * i:width * (i + 1)] for i in range(height)])
        query = queries.setdefault(b, trees.Query(height, width))
        for k, (now, block, told) in enumerate(stack[b]):
            before = now[l - 1] if l else 0
            if before == 0:
                heard = []
                query.ask(k // width, k % width, l + 1,
                          lambda level, node, bound: heard.append(int(levels[level][node] == bound)) or heard[-1])
                bits += "".join(map(str, heard))
            else:
                bits += "1" if now[l] > before else "0"
            if now[l] > before:
                if before == 0:
                    bits += number_bits(32 - planes_coding.planes_of(block))
                bits += number_bits(now[l] - before - 1) + number_bits(len(told[l]))
                data += told[l]
    bits += "0" * (-len(bits) % 8)
    return (*(int(bits[k:k + 8], 2) for k in range(0, len(bits), 8)), *data)


# Reading.

class Tree:
    """A tag tree of which bits are heard; all values that are possible at all are tried."""

    def __init__(self, height, width, layers):
        self.query = trees.Query(height, width)
        self.possible = [(trees.levels_of(values), trees.Query(height, width))
                         for values in trees.all_values((height, width), range(layers + 1))]

    def hear(self, row, column, threshold, take):
        heard = []

        def answer(*_):
            heard.append(take())
            return heard[-1]

        self.query.ask(row, column, threshold, answer)
        self.possible = [(levels, query) for levels, query in self.possible
                         if self.told(levels, query, row, column, threshold) == heard]
        if not self.possible:
            raise NoPacket
        # All values that are possible agree on whether the leaf is less than the threshold.
        return {levels[0][row, column] < threshold for levels, _ in self.possible} == {True}

    def told(self, levels, query, row, column, threshold):
        bits = []
        query.ask(row, column, threshold,
                  lambda level, node, bound: bits.append(int(levels[level][node] == bound)) or bits[-1])
        return bits


class Reader:
    """Reads packets in the order of progression."""

    def __init__(self, frame, o):
        self.blocks = {}
        self.stacks = {}
        for t, tile in enumerate(tiles(frame, o)):
            for c in range(frame[4]):
                for (r, b), (rows, columns) in bands(tile, o).items():
                    found = blocks((rows, columns), o)
                    width = len(groups(columns, o["side"]))
                    tree = Tree(len(groups(rows, o["side"])), width, len(o["cuts"])) if found else None
                    self.stacks.setdefault((t, c, r), []).append((b, width, tree, len(found)))
                    for k, block in enumerate(found):
                        shape = (len(block[0]), len(block[1]))
                        self.blocks[t, c, r, b, k] = {"shape": shape, "cuts": [], "data": [], "planes": None}

    def read(self, key, data):
        """Reads a packet at the beginning of a byte string, and returns its length."""
        bits = "".join(f"{byte:08b}" for byte in data)
        at = [0]

        def take():
            if at[0] == len(bits):
                raise EndsEarly
            at[0] += 1
            return int(bits[at[0] - 1])

        def number():
            count = 0
            while take() == 1:
                count += 1
            return int("1" + "".join(str(take()) for _ in range(count)), 2) - 1

        news = self.news(key, take, number)
        behind = math.ceil(Fraction(at[0], 8))
        for block, planes, more, length in news:
            if behind + length > len(data):
                raise EndsEarly
            block["planes"] = planes
            block["cuts"].append(more)
            block["data"].append(tuple(data[behind:behind + length]))
            behind += length
        return behind

    def news(self, key, take, number):
        """What the bits of a packet tell."""
        news = []
        if take() == 0:
            return news
        for b, width, tree, count in self.stacks[key[:3]]:
            for k in range(count):
                block = self.blocks[(*key[:3], b, k)]
                before = block["cuts"][-1] if block["cuts"] else 0
                if before == 0:
                    has_more = tree.hear(k // width, k % width, key[3] + 1, take)
                else:
                    has_more = take() == 1
                if has_more:
                    planes = 32 - number() if before == 0 else block["planes"]
                    now = before + 1 + number()
                    if planes < 1 or now > 3 * planes - 2:
                        raise NoPacket
                    news.append((block, planes, now, number()))
        return news

    def results(self):
        """What was told of all blocks."""
        return tuple((key, block["cuts"][-1] if block["cuts"] else 0, ranges(block))
                     for key, block in sorted(self.blocks.items()))


def ranges(block):
    """The rows of ranges that are known of a block, or None."""
    if not block["cuts"]:
        return None
    code = coding.Coding(coding.OWN_STATES)
    numbers = []

    def ask(_, context):
        return coding.decoded(code, numbers[-1], [context])[0]

    def begin_layers(number):
        while len(numbers) < len(block["cuts"]) and (not numbers or block["cuts"][len(numbers) - 1] <= number):
            code.begin()
            numbers.append(coding.number_of(block["data"][len(numbers)]))

    walk = planes_coding.Walk(*block["shape"], block["planes"], ask)
    walk.run(block["cuts"][-1], begin_layers)
    return walk.ranges()


def read_packets(frame, o, packets):
    """What the first packets tell, or the index of the first one that is none."""
    reader = Reader(frame, o)
    for index, (key, data) in enumerate(packets):
        try:
            length = reader.read(key, data)
        except (EndsEarly, NoPacket):
            return index
        if length < len(data):
            return index
    return reader.results()


def divided(least, most, o):
    """A range, divided if there is a region."""
    power = 2 ** o["shift"]
    if o["region"] is None:
        return least, most
    if least > 0:
        return (least // power, most // power) if least >= power else (least, most)
    if most < 0:
        return (-(-least // power), -(-most // power)) if -most >= power else (least, most)
    return -max(-least // power, min(-least, power - 1)), max(most // power, min(most, power - 1))


def middle(least, most):
    if least <= 0 <= most:
        return 0
    return math.trunc(Fraction(least + most, 2))


def known_bands(frame, o, results):
    """The dict by (tile, component, resolution, band) of dicts of the divided ranges, or None, of coefficients."""
    found = {(t, c, *key): {(i, j): None for i in band[0] for j in band[1]}
             for t, tile in enumerate(tiles(frame, o)) for c in range(frame[4]) for key, band in bands(tile, o).items()}
    for (key, (rows, columns)), (same_key, _, told) in zip(all_blocks(frame, o), results):
        assert key == same_key
        if told is not None:
            for i, row in zip(rows, told):
                for j, (least, most) in zip(columns, row):
                    found[key[:4]][i, j] = divided(least, most, o)
    return found


def picture_of(frame, o, results):
    """The picture that blocks tell."""
    top, left, height, width, many = frame
    known = known_bands(frame, o, results)
    samples = {}
    for t, tile in enumerate(tiles(frame, o)):
        for c in range(many):
            values = {key[2:]: {at: 0 if told is None else middle(*told) for at, told in band.items()}
                      for key, band in known.items() if key[:2] == (t, c)}
            low = values[0, 0]
            for r in range(1, o["levels"] + 1):
                rows, columns = tile
                for _ in range(o["levels"] - r):
                    rows, columns = evens(rows), evens(columns)
                low = merged(steps_of(o), rows, columns, low, *(values[r, b] for b in range(3)))
            for at, value in low.items():
                samples[(c, *at)] = value
    components = tuple(tuple(tuple(samples[c, i, j] for j in range(left, left + width))
                             for i in range(top, top + height)) for c in range(many))
    if are_turned(frame, o):
        components = recolored(components, turned_back)
    return top, left, components


def merged(steps, rows, columns, ll, hl, lh, hh):
    """The samples of a plane by positions, from the coefficients of its bands."""
    table = {}
    for i in rows:
        for j in columns:
            band = (ll, hl)[j % 2] if i % 2 == 0 else (lh, hh)[j % 2]
            table[i, j] = band[i // 2, j // 2]
    if not table:
        return table
    for j in columns:
        for i, value in zip(rows, reference.before_steps(steps, rows[0], [table[i, j] for i in rows])):
            table[i, j] = value
    for i in rows:
        for j, value in zip(columns, reference.before_steps(steps, columns[0], [table[i, j] for j in columns])):
            table[i, j] = value
    return table


def certain(frame, o, results):
    """For each component, the rows that tell which samples need none but exact coefficients."""
    top, left, height, width, many = frame
    known = known_bands(frame, o, results)
    answers = {}
    for t, tile in enumerate(tiles(frame, o)):
        for i, j in itertools.product(*tile):
            needed = masks(tile, o, {i}, {j})
            for c in range(many):
                told = [known[(t, c, *key)][at] for key, mask in needed.items() for at in mask]
                answers[c, i, j] = all(one is not None and one[0] == one[1] for one in told)
    if are_turned(frame, o):
        answers = {(c, i, j): all(answers[other, i, j] for other in range(3)) for c, i, j in answers}
    return tuple(tuple(tuple(answers[c, i, j] for j in range(left, left + width))
                       for i in range(top, top + height)) for c in range(many))


# Streams.

def header(frame, o):
    region = [0] if o["region"] is None else [4, *o["region"]]
    return (66, 80, *frame, {"short": 0, "long": 1}[o["kernel"]], o["levels"], o["side"], *map(ord, o["order"]),
            o["tile_height"], o["tile_width"], int(o["colors"]), o["shift"], *region, len(o["cuts"]), *o["cuts"])


def read_all(frame, o, data, start):
    """The packets that are whole behind a header, or the position of what cannot be."""
    reader = Reader(frame, o)
    packets = []
    for key in keys(frame, o):
        try:
            length = reader.read(key, data[start:])
        except EndsEarly:
            return tuple(packets)
        except NoPacket:
            return start
        packets.append((key, data[start:start + length]))
        start += length
    return tuple(packets) if start == len(data) else start
