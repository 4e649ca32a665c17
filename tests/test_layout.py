"""Point 39: tiles, resolutions, bands, blocks, and the keys of packets."""

import itertools
import unittest

from bandpress.errors import BadFrame, NotOptions, TooMany
from bandpress.kernels import short_kernel
from bandpress.layout import block_places, packet_keys, tiles_of
from bandpress.options import Options
from bandpress.pyramids import decompose
from tests import codec
from tests.helpers import PressTest, faults
from tests.pictures import FRAMES, MANY_FRAME, MANY_OPTIONS, NOT_FRAMES, NOT_OPTIONS, cases
from tests.test_options import ALL_ORDERS


class TilesTest(PressTest):
    def test_written_out(self):
        self.same(tiles_of((0, 0, 1, 1, 1), Options()), [(0, 0, 1, 1)])
        self.same(tiles_of((15, 31, 2, 2, 2), Options()),
                  [(15, 31, 1, 1), (15, 32, 1, 1), (16, 31, 1, 1), (16, 32, 1, 1)])
        self.same(tiles_of((3, 5, 7, 6, 2), Options(tile_height=4, tile_width=3)),
                  [(3, 5, 1, 1), (3, 6, 1, 3), (3, 9, 1, 2), (4, 5, 4, 1), (4, 6, 4, 3), (4, 9, 4, 2),
                   (8, 5, 2, 1), (8, 6, 2, 3), (8, 9, 2, 2)])
        self.same(tiles_of((99, 0, 1, 3, 3), Options(tile_width=1)), [(99, 0, 1, 1), (99, 1, 1, 1), (99, 2, 1, 1)])

    def test_against_the_reference(self):
        for _, frame, options, o in cases():
            self.same(tiles_of(frame, options), [codec.place(*tile) for tile in codec.tiles(frame, o)])

    def test_all_tile_sides(self):
        for height, width in itertools.product(range(1, 17), repeat=2):
            o = {**codec.DEFAULTS, "tile_height": height, "tile_width": width}
            frame = (7, 10, 16, 13, 1)
            found = tiles_of(frame, Options(**o))
            self.same(found, [codec.place(*tile) for tile in codec.tiles(frame, o)])
            self.same(sum(tile[2] * tile[3] for tile in found), 16 * 13)

    def test_wrong_arguments(self):
        self.check_order(tiles_of, [(0, 0, 1, 1, 1), Options()],
                         [faults(BadFrame, NOT_FRAMES), faults(NotOptions, NOT_OPTIONS)])


class BlockPlacesTest(PressTest):
    def test_written_out(self):
        self.same(block_places((0, 0, 1, 1, 1), Options(levels=0)), [((0, 0, 0, 0, 0), (0, 0, 1, 1))])
        self.same(block_places((3, 2, 2, 3, 1), Options(levels=1)),
                  [((0, 0, 0, 0, 0), (2, 1, 1, 2)), ((0, 0, 1, 0, 0), (2, 1, 1, 1)), ((0, 0, 1, 1, 0), (1, 1, 1, 2)),
                   ((0, 0, 1, 2, 0), (1, 1, 1, 1))])
        # A row at an odd position has no low band; what is left is the high band of the first split.
        self.same(block_places((1, 0, 1, 2, 1), Options()),
                  [((0, 0, 2, 1, 0), (0, 0, 1, 1)), ((0, 0, 2, 2, 0), (0, 0, 1, 1))])
        self.same(block_places((3, 6, 6, 3, 1), Options(levels=0)),
                  [((0, 0, 0, 0, 0), (3, 6, 1, 2)), ((0, 0, 0, 0, 1), (3, 8, 1, 1)), ((0, 0, 0, 0, 2), (4, 6, 4, 2)),
                   ((0, 0, 0, 0, 3), (4, 8, 4, 1)), ((0, 0, 0, 0, 4), (8, 6, 1, 2)), ((0, 0, 0, 0, 5), (8, 8, 1, 1))])

    def test_against_the_reference(self):
        for _, frame, options, o in cases():
            found = block_places(frame, options)
            self.same(found, [(key, codec.place(*block)) for key, block in codec.all_blocks(frame, o)])
            self.same(found, sorted(found))
            self.same(sum(height * width for _, (_, _, height, width) in found), frame[2] * frame[3] * frame[4])

    def test_bands_are_those_of_decompose(self):
        for _, frame, options, o in cases(3):
            tiles = tiles_of(frame, options)
            places = dict(block_places(frame, options))
            for t, (top, left, height, width) in enumerate(tiles):
                plane = (top, left, ((0,) * width,) * height)
                first, *triples = decompose(short_kernel(), plane, options.levels)
                for r, bands in enumerate([(first,), *triples]):
                    for b, (band_top, band_left, rows) in enumerate(bands):
                        cells = {(i, j) for key, place in places.items() if key[:4] == (t, 0, r, b)
                                 for i in range(place[0], place[0] + place[2])
                                 for j in range(place[1], place[1] + place[3])}
                        self.same(sorted(cells), [(band_top + i, band_left + j) for i, row in enumerate(rows)
                                                  for j in range(len(row))])

    def test_more_than_4000_keys_do_no_harm(self):
        self.same(len(block_places(MANY_FRAME, MANY_OPTIONS)), 16 * 16 * 3)

    def test_wrong_arguments(self):
        self.check_order(block_places, [(0, 0, 1, 1, 1), Options()],
                         [faults(BadFrame, NOT_FRAMES), faults(NotOptions, NOT_OPTIONS)])


class PacketKeysTest(PressTest):
    def test_written_out(self):
        options = Options(levels=1, cuts=(3, 0))
        self.same(packet_keys((0, 0, 1, 1, 1), options), [(0, 0, 0, 0), (0, 0, 1, 0), (0, 0, 0, 1), (0, 0, 1, 1)])
        self.same(packet_keys((0, 0, 1, 1, 2), options.changed(order="rtcl", cuts=(0,))),
                  [(0, 0, 0, 0), (0, 1, 0, 0), (0, 0, 1, 0), (0, 1, 1, 0)])

    def test_against_the_reference(self):
        for _, frame, options, o in cases():
            self.same(packet_keys(frame, options), codec.keys(frame, o))

    def test_all_orders(self):
        for order in ALL_ORDERS:
            o = {**codec.DEFAULTS, "order": order, "cuts": (5, 3, 0), "tile_height": 3, "tile_width": 5}
            found = packet_keys((4, 9, 5, 5, 3), Options(**o))
            self.same(found, codec.keys((4, 9, 5, 5, 3), o))
            self.same(len(found), 4 * 3 * 3 * 3)
            self.same(len(set(found)), len(found))
        options = Options(order="tcrl", tile_width=2, cuts=(3, 1))
        found = packet_keys((0, 0, 3, 4, 2), options)
        self.same(found, sorted(found))

    def test_at_most_4000(self):
        # 4000 has the factor 125, which no number of tiles of a picture has; these are the numbers next to it.
        numbers = sorted({a * b * c * r * l for a in range(1, 17) for b in range(1, 17) for c in (1, 2, 3)
                          for r in (1, 2, 3, 4) for l in (1, 2, 3, 4)})
        below, above = [n for n in numbers if n <= 4000][-1], [n for n in numbers if n > 4000][0]
        for a, b, c, r, l in itertools.product(range(1, 17), range(1, 17), (1, 2, 3), (1, 2, 3, 4), (1, 2, 3, 4)):
            if a * b * c * r * l in (below, above):
                frame = (0, 0, a, b, c)
                options = Options(levels=r - 1, cuts=(0,) * l, tile_height=1, tile_width=1)
                if a * b * c * r * l == below:
                    self.same(len(packet_keys(frame, options)), below)
                else:
                    self.fails(TooMany, packet_keys, frame, options, most=4000)
        self.fails(TooMany, packet_keys, MANY_FRAME, MANY_OPTIONS, most=4000)
        self.assertTrue(3900 < below < 4000 < above < 4100)

    def test_as_many_as_packets(self):
        for frame in FRAMES:
            options = Options(levels=3, cuts=(3, 2, 1, 0))
            self.same(len(packet_keys(frame, options)), len(tiles_of(frame, options)) * frame[4] * 4 * 4)

    def test_wrong_arguments(self):
        self.check_order(packet_keys, [(0, 0, 1, 1, 1), Options()],
                         [faults(BadFrame, NOT_FRAMES), faults(NotOptions, NOT_OPTIONS)])
        self.fails(BadFrame, packet_keys, (100, 0, 16, 16, 3), MANY_OPTIONS)


if __name__ == "__main__":
    unittest.main()
