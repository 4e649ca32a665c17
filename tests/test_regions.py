"""Point 50: the coefficients that positions need, and the masks of regions as picture_blocks uses them."""

import itertools
import random
import unittest

from bandpress.errors import BadPositions, BadSpan, NotKernel
from bandpress.filters import duals
from bandpress.kernels import Kernel, long_kernel, short_kernel
from bandpress.lifting import synthesize
from bandpress.options import Options
from bandpress.packets import picture_blocks
from bandpress.regions import support
from bandpress.spans import high_span, low_span
from tests import codec
from tests.helpers import NOT_INTEGERS, NOT_KERNELS, NOT_SPANS, PressTest, faults
from tests.pictures import FRAMES
from tests.samples import KERNELS, SHORT, some_steps

SPANS = ((0, 0), (0, 1), (1, 2), (-1, 0), (0, 2), (1, 3), (0, 5), (-3, 4), (7, 20), (0, 64), (900, 964), (-1000, -937),
         (-999, -998), (-1000, -1000), (900, 900), (899, 900), (11, 43))


def some_positions(span, seed):
    """Tuples of positions of a span: none, each alone at the ends, all, and some in any order, some twice."""
    source = random.Random(seed)
    inside = list(range(*span))
    yield ()
    if inside:
        yield (inside[0],)
        yield (inside[-1],)
        yield (inside[len(inside) // 2],)
        yield tuple(inside)
        yield tuple(source.choice(inside) for _ in range(min(64, 1 + len(inside) // 3)))
        yield (inside[-1],) * 64


class SupportTest(PressTest):
    def test_written_out(self):
        kernel = short_kernel()
        self.same(support(kernel, (0, 8), (4,)), ((2,), (1, 2)))
        self.same(support(kernel, (0, 8), (3,)), ((1, 2), (0, 1, 2)))
        self.same(support(kernel, (0, 8), (0,)), ((0,), (0,)))
        self.same(support(kernel, (0, 8), (7,)), ((3,), (2, 3)))
        self.same(support(kernel, (1, 3), (1,)), ((1,), (0,)))
        self.same(support(long_kernel(), (0, 16), (7,)), ((2, 3, 4, 5), (1, 2, 3, 4, 5)))
        self.same(support(kernel, (0, 8), ()), ((), ()))
        self.same(support(kernel, (3, 3), ()), ((), ()))

    def test_one_position(self):
        for steps in KERNELS:
            self.same(support(Kernel(steps), (4, 5), (4,)), ((2,), ()))
            self.same(support(Kernel(steps), (-3, -2), (-3,)), ((), (-2,)))
            self.same(support(Kernel(steps), (-3, -2), ()), ((), ()))

    def test_weights_of_0_are_not_read(self):
        self.same(support(Kernel((((0,), 0),)), (0, 9), (1, 4)), ((2,), (0,)))
        self.same(support(Kernel((((0, 3), 2),)), (0, 12), (5,)), ((1, 4), (2,)))
        self.same(support(Kernel((((3, 0), 2),)), (0, 12), (5,)), ((2, 3), (2,)))
        # A step whose sums are always 0 reads the positions all the same.
        self.same(support(Kernel((((1, -1), 0),)), (0, 2), (1,)), ((0,), (0,)))

    def test_mirrored_at_both_ends(self):
        kernel = Kernel((((1, 1), 0),))
        self.same(support(kernel, (0, 4), (3,)), ((0, 1), (1,)))
        self.same(support(kernel, (0, 4), (1,)), ((0, 1), (0,)))
        self.same(support(kernel, (0, 3), (1,)), ((0, 1), (0,)))
        self.same(support(kernel, (1, 3), (1,)), ((1,), (0,)))

    def test_against_the_reference(self):
        kernels = (*KERNELS, *(some_steps(seed) for seed in range(12)))
        for seed, (steps, span) in enumerate(itertools.product(kernels, SPANS)):
            for positions in some_positions(span, seed):
                found = codec.support(steps, list(range(*span)), positions)
                self.same(support(Kernel(steps), span, positions), tuple(tuple(sorted(half)) for half in found))

    def test_all_positions_need_all_coefficients(self):
        for steps, span in itertools.product(KERNELS, SPANS):
            self.same(support(Kernel(steps), span, tuple(range(*span))),
                      (tuple(range(*low_span(span))), tuple(range(*high_span(span)))))

    def test_other_coefficients_do_not_matter(self):
        source = random.Random(50)
        for steps in KERNELS:
            kernel = Kernel(steps)
            for span in ((0, 13), (-3, 9), (5, 7), (2, 3)):
                (low_start, low_stop), (high_start, high_stop) = low_span(span), high_span(span)
                for position in range(*span):
                    low, high = support(kernel, span, (position,))
                    samples = set()
                    for _ in range(4):
                        lows = tuple(17 * i if i in low else source.randint(-999, 999)
                                     for i in range(low_start, low_stop))
                        highs = tuple(13 - i if i in high else source.randint(-999, 999)
                                      for i in range(high_start, high_stop))
                        start, found = synthesize(kernel, (low_start, lows), (high_start, highs))
                        samples.add(found[position - start])
                    self.same(len(samples), 1)

    def test_far_from_the_ends_as_the_duals(self):
        # For these kernels no weights of the dual filters cancel, so these tell the same.
        for kernel in (short_kernel(), long_kernel()):
            low_dual, high_dual = duals(kernel)
            for position in (30, 31):
                low = tuple(i for i in range(32) if position - 2 * i in dict(low_dual))
                high = tuple(i for i in range(32) if position - 2 * i - 1 in dict(high_dual))
                self.same(support(kernel, (0, 64), (position,)), (low, high))

    def test_wrong_arguments(self):
        wrong_spans = faults(BadSpan, (*NOT_SPANS, (0, 65), (901, 901), (901, 902), (-1000, 1000), (900, 965),
                                       (1000, 1000)))
        wrong_positions = [
            *((value, BadPositions, {"index": None}) for value in
              (None, True, 3, "", "3", [], [3], {}, {3: 3}, (3,) * 65, (None,) * 65)),
            *(((value,), BadPositions, {"index": 0}) for value in (*NOT_INTEGERS, (3,), 2, 10, -3, 10 ** 30)),
            *(((4, 9, value, None), BadPositions, {"index": 2}) for value in (*NOT_INTEGERS, 2, 10, 10 ** 30)),
        ]
        self.check_order(support, [short_kernel(), (3, 10), (9, 3, 3)],
                         [faults(NotKernel, NOT_KERNELS), wrong_spans, wrong_positions])
        self.fails(BadPositions, support, short_kernel(), (3, 3), (3,), index=0)
        support(short_kernel(), (900, 964), (963,) * 64)


class MaskTest(PressTest):
    """picture_blocks multiplies the coefficients in the mask, so a picture that has no 0 in its bands tells it."""

    def check_mask(self, frame, given):
        """Checks which coefficients of a picture are multiplied."""
        o = {**codec.DEFAULTS, **given}
        top, left, height, width, many = frame
        source = random.Random(sum(frame))
        rows = tuple(tuple(source.choice((-200, -90, 101, 230)) for _ in range(width)) for _ in range(height))
        picture = (top, left, (rows,) * many)
        plain = dict(picture_blocks(picture, Options(**{**given, "region": None})))
        found = picture_blocks(picture, Options(**given))
        tiles = codec.tiles(frame, o)
        for (key, block), (_, (block_rows, block_columns)) in zip(found, codec.all_blocks(frame, o)):
            mask = codec.region_masks(tiles[key[0]], o)[key[2], key[3]]
            expected = tuple(tuple(value * 2 ** o["shift"] if (i, j) in mask else value
                                   for j, value in zip(block_columns, row))
                             for i, row in zip(block_rows, plain[key]))
            self.same(block, expected)

    def test_regions(self):
        regions = ((0, 0, 100, 100), (99, 99, 100, 100), (0, 0, 1, 1), (8, 8, 9, 9), (7, 0, 8, 100), (0, 9, 100, 10),
                   (5, 5, 9, 11), (16, 15, 18, 33), (0, 0, 3, 5), (86, 90, 93, 100), (84, 84, 85, 85))
        for number, (frame, region) in enumerate(itertools.product(FRAMES, regions)):
            given = {"region": region, "shift": 13, "levels": number % 4, "kernel": ("short", "long")[number // 4 % 2],
                     "tile_height": (16, 5, 8)[number % 3], "tile_width": (16, 7, 3)[number // 3 % 3]}
            self.check_mask(frame, given)

    def test_one_empty_direction_makes_both_empty(self):
        picture = (4, 4, (((7, 9, 8), (6, 5, 9), (3, 2, 2)),))
        for region in ((4, 7, 7, 8), (7, 4, 8, 7), (0, 0, 4, 5), (0, 0, 5, 4), (50, 50, 60, 60)):
            options = Options(levels=2, region=region, shift=9)
            self.same(picture_blocks(picture, options), picture_blocks(picture, Options(levels=2)))

    def test_region_that_touches_one_tile(self):
        picture = (0, 0, (((100,) * 8,) * 8,))
        options = Options(levels=0, tile_height=4, tile_width=4, region=(3, 4, 4, 5), shift=7)
        found = dict(picture_blocks(picture, options))
        self.same(found[0, 0, 0, 0, 0], ((100,) * 4,) * 4)
        self.same(found[1, 0, 0, 0, 0], (*((100,) * 4,) * 3, (12800, 100, 100, 100)))
        self.same(found[2, 0, 0, 0, 0], ((100,) * 4,) * 4)

    def test_steps_are_those_of_the_kernel(self):
        self.same(SHORT, short_kernel().steps)


if __name__ == "__main__":
    unittest.main()
