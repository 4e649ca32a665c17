"""Points 46 to 48: changes of all packets of a picture, which are those of the changed picture encoded anew."""

import itertools
import random
import unittest

from bandpress.errors import BadFrame, BadNumber, BadOptions, BadPackets, BadTiles, NotOptions, TooMany
from bandpress.layout import packet_keys, tiles_of
from bandpress.options import Options
from bandpress.packets import pack
from bandpress.pictures import frame_of
from bandpress.spans import low_span_after
from bandpress.transcoding import crop, keep_components, keep_layers, keep_levels, reorder
from bandpress.unpacking import picture_of
from tests import codec, reference
from tests.helpers import NOT_INTEGERS, PressTest, faults
from tests.pictures import FRAMES, MANY_FRAME, MANY_OPTIONS, NOT_FRAMES, NOT_OPTIONS, cases, some_picture
from tests.test_options import ALL_ORDERS, WRONG
from tests.test_unpacking import NOT_KEYED

FRAME = (0, 0, 1, 2, 1)
OPTIONS = Options(levels=1, cuts=(3, 0), tile_width=1)
PACKETS = pack((0, 0, (((5, -9),),)), OPTIONS)
KEYS = [key for key, _ in PACKETS]
WRONG_PACKETS = [
    *((value, BadPackets, {"index": None}) for value in
      (None, True, 0, "", "ab", (), [], list(PACKETS), {}, {0: PACKETS[0]}, PACKETS[:-1], (*PACKETS, PACKETS[0]),
       (None,) * 9)),
    *(((value, *PACKETS[1:]), BadPackets, {"index": 0}) for value in NOT_KEYED),
    *(((value, None, *PACKETS[2:]), BadPackets, {"index": 0}) for value in NOT_KEYED),
    *(((*PACKETS[:7], value), BadPackets, {"index": 7}) for value in NOT_KEYED),
    ((PACKETS[0], *PACKETS[2:], PACKETS[1]), BadPackets, {"index": 1}),
    ((PACKETS[0], PACKETS[0], *PACKETS[2:]), BadPackets, {"index": 1}),
    (PACKETS[::-1], BadPackets, {"index": 0}),
]
WRONG_FIRST = [faults(BadFrame, NOT_FRAMES), faults(NotOptions, NOT_OPTIONS), WRONG_PACKETS]


def cropped(picture, rows, columns):
    """The part of a picture in some rows and columns."""
    top, left, components = picture
    return rows[0], columns[0], tuple(tuple(row[columns[0] - left:columns[1] - left]
                                            for row in component[rows[0] - top:rows[1] - top])
                                      for component in components)


def lessened(picture, o, gone):
    """The picture that is left if so many levels go: the low bands of the tiles; or None if nothing is left."""
    top, left, components = picture
    turned = codec.are_turned(frame_of(picture), o)
    if turned:
        components = codec.recolored(components, codec.turned)
    samples = {}
    for rows, columns in codec.tiles(frame_of(picture), o):
        for c, component in enumerate(components):
            plane = (rows[0], columns[0], tuple(tuple(component[i - top][j - left] for j in columns) for i in rows))
            for _ in range(gone):
                plane = reference.split(codec.steps_of(o), *plane)[0]
            samples.update({(c, *at): value for at, value in codec.as_dict(plane).items()})
    if not samples:
        return None
    rows, columns = sorted({at[1] for at in samples}), sorted({at[2] for at in samples})
    components = tuple(tuple(tuple(samples[c, i, j] for j in columns) for i in rows) for c in range(len(components)))
    if turned:
        components = codec.recolored(components, codec.turned_back)
    return rows[0], columns[0], components


class TranscodingTest(PressTest):
    def check(self, found, frame, options, packets):
        """Checks what a change returned."""
        self.same(found[0], frame)
        self.assertIs(found[1].__class__, Options)
        self.assertTrue(found[1] == options)
        self.same(found[2], packets)
        self.same(len(found), 3)

    def check_picture(self, found, picture, options):
        """Checks that a change returned what encoding a picture gives."""
        self.check(found, frame_of(picture), options, pack(picture, options))


class KeepLayersTest(TranscodingTest):
    def test_written_out(self):
        self.check(keep_layers(FRAME, OPTIONS, PACKETS, 1), FRAME, OPTIONS.changed(cuts=(3,)),
                   tuple(item for item in PACKETS if item[0][3] == 0))

    def test_as_encoded_anew(self):
        for picture, frame, options, _ in cases(3):
            options = options.changed(cuts=(20, 12, 6, 1) if frame[2] < 9 else (15, 15, 2))
            packets = pack(picture, options)
            for layers in range(1, len(options.cuts) + 1):
                self.check_picture(keep_layers(frame, options, packets, layers), picture,
                                   options.changed(cuts=options.cuts[:layers]))

    def test_wrong_arguments(self):
        self.check_order(keep_layers, [FRAME, OPTIONS, PACKETS, 2],
                         [*WRONG_FIRST, faults(BadNumber, (*NOT_INTEGERS, (1,), -1, 0, 3, 10 ** 30))])


class KeepComponentsTest(TranscodingTest):
    def test_as_encoded_anew(self):
        for picture, frame, options, _ in cases(2):
            packets = pack(picture, options)
            for many in range(1, frame[4] + 1):
                if options.colors and frame[4] == 3 and many < 3:
                    self.fails(BadOptions, keep_components, frame, options, packets, many, name="colors")
                else:
                    some = (*picture[:2], picture[2][:many])
                    self.check_picture(keep_components(frame, options, packets, many), some, options)

    def test_colors_that_are_not_turned(self):
        picture = some_picture((3, 4, 5, 6, 2), 0)
        options = Options(colors=True)
        self.check_picture(keep_components((3, 4, 5, 6, 2), options, pack(picture, options), 1),
                           (*picture[:2], picture[2][:1]), options)

    def test_wrong_arguments(self):
        self.check_order(keep_components, [FRAME, OPTIONS, PACKETS, 1],
                         [*WRONG_FIRST, faults(BadNumber, (*NOT_INTEGERS, (1,), -1, 0, 2, 10 ** 30))])
        picture = some_picture((3, 4, 5, 6, 3), 0)
        options = Options(colors=True)
        for many in (0, 4, True, None, (3,)):
            self.fails(BadNumber, keep_components, (3, 4, 5, 6, 3), options, pack(picture, options), many)


class ReorderTest(TranscodingTest):
    def test_as_encoded_anew(self):
        for number, (picture, frame, options, _) in enumerate(cases(5)):
            packets = pack(picture, options)
            for order in ALL_ORDERS[number % 5::5]:
                self.check_picture(reorder(frame, options, packets, order), picture, options.changed(order=order))

    def test_all_orders(self):
        picture = some_picture((3, 4, 5, 6, 2), 0)
        for first, second in itertools.product(ALL_ORDERS[::5], ALL_ORDERS):
            options = Options(levels=1, cuts=(9, 0), tile_height=4, order=first)
            found = reorder((3, 4, 5, 6, 2), options, pack(picture, options), second)
            self.check_picture(found, picture, options.changed(order=second))
            self.check_picture(reorder(*found, first), picture, options)

    def test_wrong_arguments(self):
        self.check_order(reorder, [FRAME, OPTIONS, PACKETS, "tcrl"],
                         [*WRONG_FIRST, faults(BadOptions, WRONG["order"], name="order")])


class CropTest(TranscodingTest):
    def test_written_out(self):
        self.check(crop(FRAME, OPTIONS, PACKETS, (0, 1, 1, 2)), (0, 1, 1, 1, 1), OPTIONS,
                   tuple(((0, *key[1:]), data) for key, data in PACKETS if key[0] == 1))

    def test_as_encoded_anew(self):
        source = random.Random(46)
        for picture, frame, options, o in cases():
            packets = pack(picture, options)
            rows, columns = codec.grid_shape(frame, o)
            tiles = codec.tiles(frame, o)
            first_row, first_column = source.randrange(rows), source.randrange(columns)
            some = (first_row, first_column, source.randint(first_row + 1, rows),
                    source.randint(first_column + 1, columns))
            for rectangle in ((0, 0, rows, columns), (rows - 1, columns - 1, rows, columns), (0, 0, 1, columns),
                              (0, columns - 1, rows, columns), some):
                first, last = tiles[rectangle[0] * columns + rectangle[1]], tiles[(rectangle[2] - 1) * columns
                                                                                  + rectangle[3] - 1]
                part = cropped(picture, (first[0][0], last[0][-1] + 1), (first[1][0], last[1][-1] + 1))
                self.check_picture(crop(frame, options, packets, rectangle), part, options)

    def test_each_tile_and_each_rectangle(self):
        picture = some_picture((3, 5, 7, 6, 2), 0)
        options = Options(tile_height=3, tile_width=2, levels=1)
        packets = pack(picture, options)
        self.same(len(tiles_of((3, 5, 7, 6, 2), options)), 3 * 4)
        rows, columns = (3, 6, 9, 10), (5, 6, 8, 10, 11)
        for (a, b), (c, d) in itertools.product(itertools.combinations(range(4), 2),
                                                itertools.combinations(range(5), 2)):
            self.check_picture(crop((3, 5, 7, 6, 2), options, packets, (a, c, b, d)),
                               cropped(picture, (rows[a], rows[b]), (columns[c], columns[d])), options)

    def test_wrong_arguments(self):
        frame, options = (3, 5, 7, 6, 2), Options(tile_height=3, tile_width=2, levels=0)
        packets = pack(some_picture(frame, 0), options)
        right = (1, 2, 2, 4)
        crop(frame, options, packets, right)
        wrong = [None, True, 0, "", "0011", (), (0, 0, 1), (0, 0, 1, 1, 1), [0, 0, 1, 1], {}, {0: 0}, ((0, 0, 1, 1),)]
        for place, values in enumerate(((-1, 2, 3), (-1, 4, 5), (0, 1, 4), (1, 2, 5))):
            for value in (*NOT_INTEGERS, (0,), 10 ** 30, *values):
                wrong.append((*right[:place], value, *right[place + 1:]))
        for tiles in wrong:
            self.fails(BadTiles, crop, frame, options, packets, tiles)
        self.check_order(crop, [FRAME, OPTIONS, PACKETS, (0, 0, 1, 2)],
                         [*WRONG_FIRST, faults(BadTiles, (*wrong, (0, 0, 1, 3)))])


class KeepLevelsTest(TranscodingTest):
    def test_as_encoded_anew(self):
        found = {True: 0, False: 0}
        for number, (frame, levels, sides) in enumerate(itertools.product(
                FRAMES, (1, 2, 3), ((8, 8), (16, 8), (8, 16), (16, 16)))):
            given = {"levels": levels, "tile_height": sides[0], "tile_width": sides[1], "colors": number % 2 == 0,
                     "kernel": ("short", "long")[number // 3 % 2], "cuts": ((0,), (9, 2), (15, 7, 0))[number % 3],
                     "order": ALL_ORDERS[number % 24], "side": (4, 8)[number // 2 % 2]}
            picture = self.calm(some_picture(frame, number))
            options, o = Options(**given), {**codec.DEFAULTS, **given}
            packets = pack(picture, options)
            for kept in range(levels):
                gone = levels - kept
                expected = lessened(picture, o, gone)
                found[expected is None] += 1
                if expected is None:
                    self.fails(BadFrame, keep_levels, frame, options, packets, kept)
                    continue
                after = options.changed(levels=kept, tile_height=sides[0] >> gone, tile_width=sides[1] >> gone)
                self.check_picture(keep_levels(frame, options, packets, kept), expected, after)
                if options.cuts[-1] == 0:
                    self.same(picture_of(*keep_levels(frame, options, packets, kept)), expected)
        self.assertTrue(min(found.values()) > 10)

    def calm(self, picture):
        """A picture with less great samples, so that the low bands may be samples, too."""
        top, left, components = picture
        return top, left, tuple(tuple(tuple(sample // 8 for sample in row) for row in rows) for rows in components)

    def test_all_levels(self):
        for picture, frame, options, _ in cases(5):
            packets = pack(picture, options)
            found = keep_levels(frame, options, packets, options.levels)
            self.check(found, frame, options, packets)

    def test_frames(self):
        for top, height in itertools.product((0, 1, 2, 3, 7, 84), (1, 2, 3, 9, 16)):
            for kept in range(3):
                frame, options = (top, 4, height, 5, 1), Options(levels=3)
                packets = tuple((key, (0,)) for key in packet_keys(frame, options))
                start, stop = low_span_after((top, top + height), 3 - kept)
                left, right = low_span_after((4, 9), 3 - kept)
                if start == stop or left == right:
                    self.fails(BadFrame, keep_levels, frame, options, packets, kept)
                else:
                    after = options.changed(levels=kept, tile_height=2 << kept, tile_width=2 << kept)
                    smaller = (start, left, stop - start, right - left, 1)
                    self.check(keep_levels(frame, options, packets, kept), smaller, after,
                               tuple((key, (0,)) for key in packet_keys(smaller, after)))

    def test_tiles_of_which_nothing_is_left(self):
        # The first row and the first column of tiles have one row and one column, at odd positions.
        frame = (3, 7, 7, 8, 2)
        options = Options(levels=1, tile_height=4, tile_width=2, cuts=(5, 0))
        picture = self.calm(some_picture(frame, 0))
        self.same(len(tiles_of(frame, options)), 3 * 5)
        found = keep_levels(frame, options, pack(picture, options), 0)
        self.same(found[0], (2, 4, 3, 4, 2))
        self.same(len(tiles_of(found[0], found[1])), 2 * 4)
        o = {**codec.DEFAULTS, "levels": 1, "tile_height": 4, "tile_width": 2}
        self.check_picture(found, lessened(picture, o, 1), options.changed(levels=0, tile_height=2, tile_width=1))

    def test_wrong_options(self):
        picture = some_picture((3, 4, 6, 7, 1), 1)
        frame = frame_of(picture)

        def check(kept, name, **given):
            options = Options(levels=3, **given)
            if name is None:
                keep_levels(frame, options, pack(picture, options), kept)
            else:
                self.fails(BadOptions, keep_levels, frame, options, pack(picture, options), kept, name=name)

        region = {"region": (3, 4, 5, 6), "shift": 12}
        for sides in ((7, 7), (16, 16), (8, 1)):
            given = {"tile_height": sides[0], "tile_width": sides[1], **region}
            check(0, "region", **given)
            check(2, "region", **given)
            check(3, None, **given)
        for kept, multiple in ((0, 8), (1, 4), (2, 2)):
            for height, width in itertools.product(range(1, 17), repeat=2):
                name = "tile_height" if height % multiple else "tile_width" if width % multiple else None
                check(kept, name, tile_height=height, tile_width=width)
        # What is wrong with the options comes before what is left of the picture.
        odd = (1, 1, 1, 1, 1)
        for given, name in (({"tile_height": 5}, "tile_height"), ({"tile_width": 9}, "tile_width"),
                            ({"tile_height": 5, "tile_width": 9, **region}, "region")):
            options = Options(**given)
            packets = tuple((key, (0,)) for key in packet_keys(odd, options))
            self.fails(BadOptions, keep_levels, odd, options, packets, 1, name=name)
            self.fails(BadNumber, keep_levels, odd, options, packets, 3)
            self.check(keep_levels(odd, options, packets, 2), odd, options, packets)

    def test_wrong_arguments(self):
        self.check_order(keep_levels, [FRAME, OPTIONS, PACKETS, 1],
                         [*WRONG_FIRST, faults(BadNumber, (*NOT_INTEGERS, (1,), -1, 2, 10 ** 30))])


class AllTest(TranscodingTest):
    def test_too_many_packets(self):
        for call, last in ((keep_layers, 1), (keep_components, 1), (reorder, "tcrl"), (crop, (0, 0, 1, 1)),
                           (keep_levels, 3)):
            self.fails(TooMany, call, MANY_FRAME, MANY_OPTIONS, None, last, most=4000)
            self.fails(NotOptions, call, MANY_FRAME, None, None, last)

    def test_bytes_are_not_read(self):
        source = random.Random(48)
        picture = some_picture((3, 5, 7, 6, 3), 0)
        options = Options(tile_height=4, tile_width=4, levels=2, cuts=(9, 0))
        packets = tuple((key, tuple(source.randrange(256) for _ in range(source.choice((0, 1, 9)))))
                        for key, _ in pack(picture, options))
        told = dict(packets)
        frame = frame_of(picture)
        for found in (keep_layers(frame, options, packets, 1), keep_components(frame, options, packets, 2),
                      reorder(frame, options, packets, "ctrl")):
            self.same(found[2], tuple((key, told[key]) for key in packet_keys(found[0], found[1])))
        # The tiles are 3 rows of 2; the first row has the picture's row 3 alone, of which nothing is left.
        self.same(crop(frame, options, packets, (1, 1, 2, 2))[2],
                  tuple((key, told[(3, *key[1:])]) for key in packet_keys((4, 8, 4, 3, 3), options)))
        self.same(len(tiles_of(frame, options)), 6)
        found = keep_levels(frame, options, packets, 1)
        self.same(found[0], (2, 3, 3, 3, 3))
        self.same(found[2], tuple((key, told[(key[0] + 2, *key[1:])]) for key in packet_keys(found[0], found[1])))

    def test_two_changes_in_either_order(self):
        picture = KeepLevelsTest().calm(some_picture((3, 5, 9, 10, 3), 0))
        options = Options(tile_height=8, tile_width=4, levels=2, cuts=(9, 4, 0), order="rltc")
        start = (frame_of(picture), options, pack(picture, options))
        changes = {
            "layers": lambda now: keep_layers(*now, 2), "components": lambda now: keep_components(*now, 2),
            "order": lambda now: reorder(*now, "clrt"), "tiles": lambda now: crop(*now, (0, 1, 2, 3)),
            "levels": lambda now: keep_levels(*now, 1),
        }
        for first, second in itertools.permutations(changes, 2):
            one, other = changes[second](changes[first](start)), changes[first](changes[second](start))
            self.check(one, *other)
            self.same(picture_of(*one), picture_of(*other))

    def test_two_crops_and_two_times_fewer_levels(self):
        picture = KeepLevelsTest().calm(some_picture((3, 5, 13, 11, 1), 0))
        options = Options(tile_height=4, tile_width=4, levels=2)
        start = (frame_of(picture), options, pack(picture, options))
        self.check(crop(*crop(*start, (1, 0, 4, 3)), (1, 1, 2, 3)), *crop(*start, (2, 1, 3, 3)))
        self.check(keep_levels(*keep_levels(*start, 1), 0), *keep_levels(*start, 0))


if __name__ == "__main__":
    unittest.main()
