"""Points 40 and 41: the blocks of pictures, and the packets that tell of them."""

import unittest

from bandpress.blocks import pass_count
from bandpress.errors import BadPicture, NotApart, NotOptions, TooMany
from bandpress.layout import packet_keys
from bandpress.options import Options
from bandpress.packets import pack, picture_blocks
from bandpress.pictures import frame_of
from bandpress.segments import segments
from bandpress.tables import own_table
from tests import codec
from tests.helpers import PressTest, faults
from tests.pictures import MANY_FRAME, MANY_OPTIONS, NOT_OPTIONS, WRONG_PICTURES, cases, some_picture, zeros

ONE = (0, 0, (((5,),),))
APART_REGION = {"region": (0, 0, 1, 1), "shift": 3}


def filled_up(bits):
    """The bytes of a string of bits."""
    bits += "0" * (-len(bits) % 8)
    return tuple(int(bits[k:k + 8], 2) for k in range(0, len(bits), 8))


class PictureBlocksTest(PressTest):
    def test_written_out(self):
        self.same(picture_blocks(ONE, Options(levels=0)), [((0, 0, 0, 0, 0), ((5,),))])
        self.same(picture_blocks((0, 0, (((4, 9, 6, 3),),)), Options(levels=1)),
                  [((0, 0, 0, 0, 0), ((6, 6),)), ((0, 0, 1, 0, 0), ((4, -3),))])
        self.same(picture_blocks((0, 0, (((10,),), ((20,),), ((30,),))), Options(colors=True)),
                  [((0, 0, 0, 0, 0), ((-20,),)), ((0, 1, 0, 0, 0), ((0,),)), ((0, 2, 0, 0, 0), ((20,),))])

    def test_against_the_reference(self):
        for picture, _, options, o in cases():
            self.same(picture_blocks(picture, options), codec.picture_blocks(picture, o))

    def test_colors_are_turned_with_three_components_alone(self):
        for many in (1, 2):
            picture = some_picture((3, 4, 5, 6, many), 0)
            self.same(picture_blocks(picture, Options(colors=True)), picture_blocks(picture, Options()))
        picture = some_picture((3, 4, 5, 6, 3), 0)
        self.assertNotEqual(picture_blocks(picture, Options(colors=True)), picture_blocks(picture, Options()))

    def test_size_of_what_is_not_in_the_mask(self):
        for shift, size in ((0, 0), (1, 1), (3, 7), (8, 255)):
            for sign in (-1, 1):
                picture = (0, 0, (((sign * size, 200),),))
                options = Options(levels=0, region=(0, 1, 1, 2), shift=shift)
                self.same(picture_blocks(picture, options),
                          [((0, 0, 0, 0, 0), ((sign * size, 200 * 2 ** shift),))])
                if size < 255:
                    picture = (0, 0, (((sign * (size + 1), 200),),))
                    self.fails(NotApart, picture_blocks, picture, options)
        # A component, a tile and a level other than the first.
        self.fails(NotApart, picture_blocks, (0, 0, (((0,),), ((8,),))), Options(region=(5, 5, 6, 6), shift=3))
        self.fails(NotApart, picture_blocks, (0, 0, (((0, 8),),)),
                   Options(levels=0, tile_width=1, region=(0, 0, 1, 1), shift=3))
        self.fails(NotApart, picture_blocks, (0, 0, (((0, 0, 0, 0, 0, 9),),)),
                   Options(levels=1, region=(0, 0, 1, 1), shift=3))

    def test_not_apart_just_if_the_reference_tells_so(self):
        found = {True: 0, False: 0}
        for number, (picture, _, options, o) in enumerate(cases(2)):
            region = (number % 20, number % 17, 90, 91) if number % 3 else (number % 9, 0, number % 9 + 1, 100)
            more = {"region": region, "shift": number % 11}
            try:
                expected = codec.picture_blocks(picture, {**o, **more})
            except codec.NotApart:
                expected = None
            found[expected is None] += 1
            if expected is None:
                self.fails(NotApart, picture_blocks, picture, options.changed(**more))
                self.fails(NotApart, pack, picture, options.changed(**more))
            else:
                self.same(picture_blocks(picture, options.changed(**more)), expected)
        self.assertTrue(min(found.values()) > 20)

    def test_wrong_arguments(self):
        self.check_order(picture_blocks, [ONE, Options()], [WRONG_PICTURES, faults(NotOptions, NOT_OPTIONS)])
        apart = Options(region=(5, 5, 6, 6), shift=2)
        self.fails(BadPicture, picture_blocks, (0, 0, (((5, 256),),)), apart, index=0)
        self.fails(NotApart, picture_blocks, ONE, apart)


class PackTest(PressTest):
    def test_written_out(self):
        self.same(pack(ONE, Options(levels=0)), (((0, 0, 0, 0), (253, 219, 128, 144)),))
        # A block of zeros has no pass, and a band without blocks has nothing to tell.
        self.same(pack((0, 0, (((0,),),)), Options(levels=1)), (((0, 0, 0, 0), (0,)), ((0, 0, 1, 0), (0,))))

    def test_bits_of_packets(self):
        # Blocks with 1, 0 and 2 planes: 1, 0 and 4 passes. Behind a cut of 3 the last one has a pass, so the tag tree
        # has the values 1, 2 and 0, above them 1 and 0, and above these 0.
        picture = (0, 0, (((0, 0, 0, -1, 0, 0, 0, 0, 3),),))
        found = dict(pack(picture, Options(levels=0, cuts=(3, 0))))
        number = codec.number_bits
        one = segments(own_table(), ((0, 0, 0, -1),), (0, 1))[1]
        three = segments(own_table(), ((3,),), (1, 4))
        bits = "1" + "10" + "" + "11" + number(30) + number(0) + number(len(three[0]))
        self.same(found[0, 0, 0, 0], (*filled_up(bits), *three[0]))
        bits = "1" + "11" + number(31) + number(0) + number(len(one)) + "0" + "1" + number(2) + number(len(three[1]))
        self.same(found[0, 0, 0, 1], (*filled_up(bits), *one, *three[1]))

    def test_against_the_reference(self):
        for picture, _, options, o in cases():
            self.same(pack(picture, options), codec.pack(picture, o))

    def test_keys_are_those_of_all_packets(self):
        for picture, frame, options, _ in cases(3, 1):
            self.same([key for key, _ in pack(picture, options)], packet_keys(frame, options))

    def test_zeros(self):
        for picture, frame, options, _ in cases(7):
            self.same(pack(zeros(frame), options), tuple((key, (0,)) for key in packet_keys(frame, options)))

    def test_layers_without_new_passes(self):
        for picture, _, options, _ in cases(11, 2):
            found = pack(picture, options.changed(cuts=(94, 94, 0, 0)))
            self.assertTrue(all(data == (0,) for (_, _, _, layer), data in found if layer != 2))
            expected = pack(picture, options.changed(cuts=(0, 0, 0)))
            self.same([data == (0,) for key, data in sorted(found) if key[3] == 2],
                      [data == (0,) for key, data in sorted(expected) if key[3] == 0])

    def test_blocks_that_begin_in_a_later_layer(self):
        # Blocks with 8, 4 and 1 planes.
        row = (200, 0, 0, 0, 9, 0, 0, 0, 1)
        o = {**codec.DEFAULTS, "levels": 0, "cuts": (21, 9, 0)}
        picture = (0, 0, ((row,),))
        self.same([pass_count(block) for _, block in picture_blocks(picture, Options(**o))], [22, 10, 1])
        self.same([codec.passes_behind(block, o) for _, block in codec.picture_blocks(picture, o)],
                  [[1, 13, 22], [0, 1, 10], [0, 0, 1]])
        self.same(pack(picture, Options(**o)), codec.pack(picture, o))

    def test_layers_hold_the_same_bytes_in_all_orders(self):
        picture = some_picture((3, 5, 12, 13, 2), 0)
        given = {"cuts": (12, 5, 0), "tile_height": 8}
        expected = sorted(pack(picture, Options(**given)))
        for order in ("crtl", "lcrt", "rtlc"):
            self.same(sorted(pack(picture, Options(order=order, **given))), expected)

    def test_wrong_arguments(self):
        self.check_order(pack, [ONE, Options()], [WRONG_PICTURES, faults(NotOptions, NOT_OPTIONS)])

    def test_too_many_packets(self):
        picture = zeros(MANY_FRAME)
        self.fails(TooMany, pack, picture, MANY_OPTIONS, most=4000)
        # TooMany comes before NotApart.
        picture = some_picture(MANY_FRAME, 0)
        self.fails(NotApart, pack, picture, Options(**APART_REGION))
        self.fails(TooMany, pack, picture, MANY_OPTIONS.changed(**APART_REGION), most=4000)
        self.same(frame_of(picture), MANY_FRAME)


if __name__ == "__main__":
    unittest.main()
