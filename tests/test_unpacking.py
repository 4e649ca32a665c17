"""Point 42: what the first packets of a picture tell."""

import random
import unittest

from bandpress.distortions import middles
from bandpress.errors import BadFrame, BadPackets, NotOptions, TooMany
from bandpress.layout import packet_keys
from bandpress.options import Options
from bandpress.packets import pack, picture_blocks
from bandpress.passes import known
from bandpress.pictures import frame_of
from bandpress.segments import read_segments
from bandpress.tables import own_table
from bandpress.unpacking import picture_of, read_packets
from tests import codec
from tests.helpers import NOT_BYTES, NOT_INTEGERS, PressTest, faults
from tests.pictures import MANY_FRAME, MANY_OPTIONS, NOT_FRAMES, NOT_OPTIONS, cases, small_cases, some_picture, zeros
from tests.spoiling import made_up_packets, spoiled

ONE = (0, 0, (((5,),),))
ONE_FRAME = (0, 0, 1, 1, 1)
PLAIN = Options(levels=0)
KEY = (0, 0, 0, 0)
NOT_KEYED = (None, True, 0, "", "ab", (), (KEY,), (KEY, (), ()), [KEY, (0,)], {}, {0: KEY, 1: (0,)}, (None, (0,)),
             ((0, 0, 0), (0,)), ((0, 0, 0, 0, 0), (0,)), ([0, 0, 0, 0], (0,)), ({}, (0,)), ("0000", (0,)),
             ((1, 0, 0, 0), (0,)), ((0, 0, 0, 1), (0,)), ((0, 0, 0, -1), (0,)), ((0, (), 0, 0), (0,)),
             *(((0, value, 0, 0), (0,)) for value in NOT_INTEGERS), *((KEY, data) for data in
             (None, True, 0, "", "0", [], [0], {}, (0,) * 4001)), *((KEY, (0, byte)) for byte in NOT_BYTES))


def packed(bits, *data):
    """A packet of the one key: a string of bits, filled up with ones, and the bytes behind them."""
    bits += "1" * (-len(bits) % 8)
    return ((KEY, (*(int(bits[k:k + 8], 2) for k in range(0, len(bits), 8)), *data)),)


number = codec.number_bits


class ReadPacketsTest(PressTest):
    def test_written_out(self):
        packets = (((0, 0, 0, 0), (253, 219, 128, 144)),)
        self.same(read_packets(ONE_FRAME, PLAIN, packets), (((0, 0, 0, 0, 0), 7, (((5, 5),),)),))
        self.same(read_packets(ONE_FRAME, PLAIN, ()), (((0, 0, 0, 0, 0), 0, None),))
        self.same(read_packets((1, 0, 1, 2, 1), Options(), ()),
                  (((0, 0, 2, 1, 0), 0, None), ((0, 0, 2, 2, 0), 0, None)))

    def test_any_number_of_packets(self):
        for picture, frame, options, _ in cases(3):
            packets = pack(picture, options)
            blocks = picture_blocks(picture, options)
            for count in sorted({0, 1, len(packets) // 3, len(packets) // 2, len(packets) - 1, len(packets)}):
                came = {}
                for tile, component, resolution, layer in packet_keys(frame, options)[:count]:
                    came[tile, component, resolution] = layer
                expected = []
                for key, block in blocks:
                    o = {"cuts": options.cuts}
                    passes = codec.passes_behind(block, o)[came[key[:3]]] if key[:3] in came else 0
                    expected.append((key, passes, known(block, passes) if passes else None))
                self.same(read_packets(frame, options, packets[:count]), tuple(expected))

    def test_against_the_reference(self):
        for picture, frame, options, o in small_cases(3):
            packets = pack(picture, options)
            for count in (len(packets), len(packets) * 2 // 3):
                self.same(read_packets(frame, options, packets[:count]), codec.read_packets(frame, o, packets[:count]))

    def test_cuts_are_not_looked_at_but_for_their_number(self):
        picture = some_picture((3, 5, 9, 9, 2), 0)
        packets = pack(picture, Options(cuts=(12, 5, 0)))
        expected = read_packets(frame_of(picture), Options(cuts=(12, 5, 0)), packets)
        for cuts in ((0, 0, 0), (94, 94, 94), (30, 20, 10)):
            self.same(read_packets(frame_of(picture), Options(cuts=cuts), packets), expected)
            self.same(picture_of(frame_of(picture), Options(cuts=cuts), packets), picture)

    def check_any(self, frame, options, o, packets):
        """Checks packets that nobody has written."""
        expected = codec.read_packets(frame, o, packets)
        if isinstance(expected, int):
            self.fails(BadPackets, read_packets, frame, options, packets, index=expected)
            self.fails(BadPackets, picture_of, frame, options, packets, index=expected)
        else:
            self.same(read_packets(frame, options, packets), expected)
            self.same(picture_of(frame, options, packets), codec.picture_of(frame, o, expected))
        return isinstance(expected, int)

    def test_spoiled_packets(self):
        found = {True: 0, False: 0}
        for seed, (picture, frame, options, o) in enumerate(small_cases(2)):
            if max(frame[2:4]) < 6:
                source = random.Random(seed)
                packets = list(pack(picture, options))
                for _ in range(4):
                    place = source.randrange(len(packets))
                    some = list(packets)
                    some[place] = (some[place][0], spoiled(some[place][1], source))
                    found[self.check_any(frame, options, o, tuple(some))] += 1
        self.assertTrue(min(found.values()) > 50)

    def test_made_up_packets(self):
        found = {True: 0, False: 0}
        for seed in range(150):
            frame = ((0, 0, 1, 1, 1), (2, 3, 5, 4, 1), (98, 98, 2, 2, 2), (7, 2, 5, 1, 3))[seed % 4]
            given = ({"levels": 0, "cuts": (0, 0)}, {"levels": 1, "cuts": (9, 9, 9)}, {"levels": 0, "cuts": (5,) * 4},
                     {"levels": 0, "cuts": (0, 0, 0), "region": (0, 0, 9, 9), "shift": 2, "side": 8},
                     {"levels": 1, "cuts": (1, 0), "kernel": "long", "colors": True})[seed // 4 % 5]
            o = {**codec.DEFAULTS, **given}
            packets = made_up_packets(frame, o, seed)
            found[self.check_any(frame, Options(**given), o, packets)] += 1
        self.assertTrue(min(found.values()) > 20)

    def test_any_segments_and_any_bits_to_fill_up(self):
        source = random.Random(42)
        for planes in (1, 2, 7, 32):
            for passes in {1, 3 * planes - 2}:
                for length in (0, 1, 5, 100):
                    data = tuple(source.randrange(256) for _ in range(length))
                    bits = "11" + number(32 - planes) + number(passes - 1) + number(length)
                    expected = read_segments(own_table(), (1, 1), planes, (passes,), (data,))
                    for fill in range(2):
                        more = bits + str(fill) * (-len(bits) % 8)
                        self.same(read_packets(ONE_FRAME, PLAIN, packed(more, *data)),
                                  (((0, 0, 0, 0, 0), passes, expected),))
        for byte in range(128):
            self.same(read_packets(ONE_FRAME, PLAIN, ((KEY, (byte,)),)), (((0, 0, 0, 0, 0), 0, None),))

    def test_first_bit_1_without_new_passes(self):
        for bits in ("10", "10111111"):
            self.same(read_packets(ONE_FRAME, PLAIN, packed(bits)), (((0, 0, 0, 0, 0), 0, None),))
        packets = ((KEY, (200,)), ((0, 0, 1, 0), (128,)), ((0, 0, 2, 0), (128,)))
        self.same(read_packets((1, 0, 1, 2, 1), Options(), packets),
                  (((0, 0, 2, 1, 0), 0, None), ((0, 0, 2, 2, 0), 0, None)))

    def test_first_layer_that_is_an_earlier_one(self):
        # The first packet is the bit 0, and the query of the second one tells that the first layer is 0.
        options = Options(levels=0, cuts=(0, 0, 0))
        told = packed("11" + number(31) + number(0) + number(0))[0][1]
        packets = ((KEY, (0,)), ((0, 0, 0, 1), told), ((0, 0, 0, 2), (128,)))
        expected = read_segments(own_table(), (1, 1), 1, (1,), ((),))
        self.same(read_packets(ONE_FRAME, options, packets[:2]), (((0, 0, 0, 0, 0), 1, expected),))
        self.same(read_packets(ONE_FRAME, options, packets), (((0, 0, 0, 0, 0), 1, expected),))

    def test_planes_and_passes(self):
        for planes, passes in ((1, 1), (2, 4), (32, 94), (32, 1), (5, 13)):
            bits = "11" + number(32 - planes) + number(passes - 1) + number(0)
            self.same(read_packets(ONE_FRAME, PLAIN, packed(bits))[0][1], passes)
        for planes, passes in ((0, 1), (-1, 1), (-1000, 1), (1, 2), (2, 5), (32, 95), (5, 10 ** 9), (0, 10 ** 9)):
            bits = "11" + number(32 - planes) + number(passes - 1) + number(0)
            self.fails(BadPackets, read_packets, ONE_FRAME, PLAIN, packed(bits), index=0)

    def test_more_passes_in_later_layers(self):
        options = Options(levels=0, cuts=(3, 3, 0))
        first = packed("11" + number(30) + number(1) + number(0))[0][1]
        for more in (1, 2, 3):
            second = packed("11" + number(more - 1) + number(1), 77)[0][1]
            packets = ((KEY, first), ((0, 0, 0, 1), (0,)), ((0, 0, 0, 2), second))
            if more == 3:
                self.fails(BadPackets, read_packets, ONE_FRAME, options, packets, index=2)
            else:
                expected = read_segments(own_table(), (1, 1), 2, (2, 2 + more), ((), (77,)))
                self.same(read_packets(ONE_FRAME, options, packets), (((0, 0, 0, 0, 0), 2 + more, expected),))

    def test_tag_trees_that_no_values_fit(self):
        # Two blocks side by side: the root is closed with 0, but both leaves are greater.
        frame = (0, 0, 1, 5, 1)
        self.fails(BadPackets, read_packets, frame, PLAIN, packed("1100"), index=0)
        block = number(31) + number(0) + number(0)
        expected = read_segments(own_table(), (1, 1), 1, (1,), ((),))
        self.same(read_packets(frame, PLAIN, packed("110" + "1" + block)),
                  (((0, 0, 0, 0, 0), 0, None), ((0, 0, 0, 0, 1), 1, expected)))
        self.same(read_packets(frame, PLAIN, packed("10")),
                  (((0, 0, 0, 0, 0), 0, None), ((0, 0, 0, 0, 1), 0, None)))
        # In the second layer a leaf below the root, which is closed with 0, may begin.
        options = Options(levels=0, cuts=(0, 0))
        packets = ((KEY, packed("11" + "1" + block + "0")[0][1]), ((0, 0, 0, 1), packed("10" + "1" + block)[0][1]))
        self.same([passes for _, passes, _ in read_packets(frame, options, packets)], [1, 1])

    def test_bytes_that_end_too_early_or_are_left_over(self):
        for picture, frame, options, _ in small_cases(9, 4):
            packets = pack(picture, options)
            for place, (key, data) in enumerate(packets):
                for count in range(0, len(data), 1 + len(data) // 5):
                    some = (*packets[:place], (key, data[:count]), None)
                    self.fails(BadPackets, read_packets, frame, options, some[:len(packets)], index=place)
                for more in ((0,), (255,), (0,) * 9):
                    some = (*packets[:place], (key, data + more), *packets[place + 1:])
                    self.fails(BadPackets, read_packets, frame, options, some, index=place)

    def test_several_faults_in_one_packet(self):
        for bits in ("11" + number(32) + number(10 ** 6) + number(9), "11" + number(40), "1", "",
                     "11" + "1" * 30, "11" + number(31) + number(1) + number(4000)):
            self.fails(BadPackets, read_packets, ONE_FRAME, PLAIN, packed(bits), index=0)
        self.fails(BadPackets, read_packets, (0, 0, 1, 5, 1), PLAIN, packed("1100", 1, 2, 3), index=0)

    def test_a_long_packet(self):
        bits = "11" + number(31) + number(0) + number(3990)
        self.same(read_packets(ONE_FRAME, PLAIN, packed(bits, *(0,) * 3990))[0][1], 1)
        self.fails(BadPackets, read_packets, ONE_FRAME, PLAIN, ((KEY, (255,) * 4000),), index=0)

    def test_wrong_arguments(self):
        options = Options(levels=0, cuts=(3, 0))
        packets = pack(ONE, options)
        self.same([key for key, _ in packets], [KEY, (0, 0, 0, 1)])
        wrong = [
            *((value, BadPackets, {"index": None}) for value in
              (None, True, 0, "", "ab", [], list(packets), {}, {0: packets[0]}, (*packets, packets[1]), (None,) * 3)),
            *(((value,), BadPackets, {"index": 0}) for value in NOT_KEYED),
            *(((value, None), BadPackets, {"index": 0}) for value in NOT_KEYED),
            *(((packets[0], value), BadPackets, {"index": 1}) for value in (*NOT_KEYED, packets[0])
              if value != ((0, 0, 0, 1), (0,))),
            ((packets[1], packets[0]), BadPackets, {"index": 0}),
            ((packets[0], (packets[1][0], ())), BadPackets, {"index": 1}),
            (((KEY, (255,)), None), BadPackets, {"index": 0}),
        ]
        for call in (read_packets, picture_of):
            self.check_order(call, [ONE_FRAME, options, packets],
                             [faults(BadFrame, NOT_FRAMES), faults(NotOptions, NOT_OPTIONS), wrong])
            self.fails(TooMany, call, MANY_FRAME, MANY_OPTIONS, None, most=4000)
            self.fails(NotOptions, call, MANY_FRAME, None, None)


class PictureOfTest(PressTest):
    def test_written_out(self):
        self.same(picture_of(ONE_FRAME, PLAIN, pack(ONE, PLAIN)), ONE)
        self.same(picture_of(ONE_FRAME, PLAIN, ()), (0, 0, (((0,),),)))
        options = Options(levels=0, cuts=(3, 0))
        self.same(picture_of(ONE_FRAME, options, pack(ONE, options)[:1]), (0, 0, (((4,),),)))

    def test_all_packets_give_the_picture_back(self):
        for picture, frame, options, _ in cases():
            if options.cuts[-1] == 0:
                self.same(picture_of(frame, options, pack(picture, options)), picture)

    def test_other_last_cuts(self):
        for picture, frame, options, o in cases(4):
            for cut in (1, 4, 9, 94):
                some = options.changed(cuts=(cut,))
                packets = pack(picture, some)
                expected = codec.picture_of(frame, o, read_packets(frame, some, packets))
                self.same(picture_of(frame, some, packets), expected)
                if cut == 94:
                    self.same(expected, zeros(frame))

    def test_some_packets(self):
        for picture, frame, options, o in cases(3):
            packets = pack(picture, options)
            for count in (0, 1, len(packets) // 2, len(packets) - 1):
                expected = codec.picture_of(frame, o, read_packets(frame, options, packets[:count]))
                self.same(picture_of(frame, options, packets[:count]), expected)

    def test_samples_are_not_limited(self):
        packets = packed("11" + number(0) + number(0) + number(1), 255)
        ranges = read_packets(ONE_FRAME, PLAIN, packets)[0][2]
        self.same(picture_of(ONE_FRAME, PLAIN, packets)[2], (middles(ranges),))
        self.assertTrue(abs(middles(ranges)[0][0]) > 2 ** 30)

    def check_divided(self, shift, planes, passes, data):
        """Checks the sample that a packet of one coefficient tells if there is a region."""
        packets = packed("11" + number(32 - planes) + number(passes - 1) + number(len(data)), *data)
        options = Options(levels=0, region=(50, 50, 60, 60), shift=shift)
        ((_, _, ((told,),)),) = read_packets(ONE_FRAME, options, packets)
        o = {**codec.DEFAULTS, "region": (50, 50, 60, 60), "shift": shift}
        self.same(picture_of(ONE_FRAME, options, packets)[2][0][0][0], codec.middle(*codec.divided(*told, o)))
        return told

    def test_ranges_divided_for_a_region(self):
        told = {self.check_divided(shift, planes, passes, (byte,))
                for shift in (0, 1, 2, 3, 5, 16) for planes in (1, 2, 3, 4, 6, 17, 20)
                for passes in {1, 3 * planes - 2, max(1, 3 * planes - 5)} for byte in (0, 90, 140, 170, 200, 255)}
        # Ranges above 0 and below 0, those of one value and of more, those that hold 0.
        self.assertTrue(all(any(test(*one) for one in told) for test in (
            lambda least, most: 0 < least == most, lambda least, most: 0 < least < most,
            lambda least, most: least == most < 0, lambda least, most: least < most < 0,
            lambda least, most: least < 0 < most, lambda least, most: least == most == 0)))

    def test_a_shift_without_a_region_does_nothing(self):
        for shift in (1, 8, 16):
            options = Options(levels=0, shift=shift)
            packets = pack(ONE, options)
            self.same(packets, pack(ONE, PLAIN))
            self.same(picture_of(ONE_FRAME, options, packets), ONE)

    def test_a_region_written_out(self):
        # What is less than 2 ** shift lies outside the mask, and stays; what is not is divided.
        for sample, shift in ((7, 3), (-7, 3), (1, 1), (0, 4), (255, 8)):
            picture = (0, 0, (((sample, -3, 200),),))
            options = Options(levels=0, region=(0, 1, 1, 3), shift=shift)
            self.same(picture_of((0, 0, 1, 3, 1), options, pack(picture, options)), picture)

    def test_colors_turned_back(self):
        for seed in range(5):
            picture = some_picture((3, 5, 9, 10, 3), seed)
            for given in ({}, {"tile_height": 4, "tile_width": 3}, {"kernel": "long", "levels": 3}):
                options = Options(colors=True, cuts=(7, 0), **given)
                packets = pack(picture, options)
                self.same(picture_of(frame_of(picture), options, packets), picture)
                o = {**codec.DEFAULTS, "colors": True, **given}
                half = packets[:len(packets) // 2]
                self.same(picture_of(frame_of(picture), options, half),
                          codec.picture_of(frame_of(picture), o, read_packets(frame_of(picture), options, half)))


if __name__ == "__main__":
    unittest.main()
