"""Point 43: streams, whole and cut."""

import random
import unittest

from bandpress.errors import BadBytes, BadStream, NotApart, NotOptions, TooMany
from bandpress.layout import packet_keys
from bandpress.options import Options
from bandpress.packets import pack
from bandpress.streams import read_stream, write_stream
from tests import codec
from tests.helpers import NOT_BYTES, PressTest, faults
from tests.pictures import MANY_FRAME, MANY_OPTIONS, NOT_OPTIONS, WRONG_PICTURES
from tests.pictures import cases, small_cases, some_picture, zeros
from tests.spoiling import spoiled
from tests.test_options import ALL_ORDERS

ONE = (0, 0, (((5,),),))
PLAIN_HEADER = (66, 80, 0, 0, 1, 1, 1, 0, 0, 4, 116, 108, 114, 99, 16, 16, 0, 0, 0, 1, 0)
# A byte that may stand in the header of a stream, the one of the region's top, and so on, by what came before.
REGION_HEADER = (66, 80, 7, 9, 3, 4, 3, 1, 3, 8, 99, 114, 116, 108, 5, 16, 1, 16, 4, 2, 98, 5, 99, 4, 30, 30, 7, 0)


def header_allowed(before):
    """The bytes that may stand in a header behind others: the document's numbers, one after another."""
    place = len(before)
    plain = {0: [66], 1: [80], 2: range(100), 3: range(100), 6: (1, 2, 3), 7: (0, 1), 8: range(4), 9: (4, 8),
             14: range(1, 17), 15: range(1, 17), 16: (0, 1), 17: range(17), 18: (0, 4)}
    if place in plain:
        return list(plain[place])
    if place in (4, 5):
        return [length for length in range(1, 17) if before[place - 2] + length <= 100]
    if place in range(10, 14):
        return [ord(letter) for letter in "tcrl" if ord(letter) not in before[10:]]
    first_cut = 20
    if before[18] == 4:
        if place in (19, 20):
            return list(range(100))
        if place in (21, 22):
            return list(range(before[place - 2] + 1, 101))
        first_cut = 24
    if place == first_cut - 1:
        return [1, 2, 3, 4]
    return list(range(95 if place == first_cut else before[-1] + 1))


def header_length(header):
    return 20 + header[19] if header[18] == 0 else 24 + header[23]


class WriteStreamTest(PressTest):
    def test_written_out(self):
        self.same(write_stream(ONE, Options(levels=0)), (*PLAIN_HEADER, 253, 219, 128, 144))
        picture = (7, 9, (((0,) * 4,) * 3,) * 3)
        options = Options(kernel="long", levels=3, side=8, order="crtl", tile_height=5, colors=True, shift=16,
                          region=(2, 98, 5, 99), cuts=(30, 30, 7, 0))
        self.same(write_stream(picture, options), (*REGION_HEADER, *(0,) * len(packet_keys((7, 9, 3, 4, 3), options))))

    def test_header_and_packets(self):
        for picture, frame, options, o in cases(2):
            data = codec.header(frame, o) + tuple(byte for _, told in pack(picture, options) for byte in told)
            if len(data) <= 4000:
                self.same(write_stream(picture, options), data)
            else:
                self.fails(TooMany, write_stream, picture, options, most=4000)

    def test_at_most_4000_bytes(self):
        # Each packet of zeros is one byte; with each sample 255 the others become 3 bytes more.
        frame = (0, 0, 15, 11, 2)
        options = Options(levels=3, tile_height=1, tile_width=1, cuts=(9, 6, 3))
        self.same(len(write_stream(zeros(frame), options)), 23 + 3960)
        for count, last, length in ((4, 30, 3999), (5, 8, 4000), (5, 255, 4001), (5, 30, 4002), (11, 0, 4016)):
            samples = (255,) * count + (last,) + (0,) * (164 - count)
            picture = (0, 0, (tuple(samples[k:k + 11] for k in range(0, 165, 11)), ((0,) * 11,) * 15))
            packets = pack(picture, options)
            self.same(23 + sum(len(data) for _, data in packets), length)
            if length <= 4000:
                data = write_stream(picture, options)
                self.same(len(data), length)
                self.same(read_stream(data)[2], packets)
            else:
                self.fails(TooMany, write_stream, picture, options, most=4000)

    def test_wrong_arguments(self):
        self.check_order(write_stream, [ONE, Options()], [WRONG_PICTURES, faults(NotOptions, NOT_OPTIONS)])
        picture = some_picture(MANY_FRAME, 0)
        region = {"region": (0, 0, 1, 1), "shift": 3}
        self.fails(NotApart, write_stream, picture, Options(**region))
        self.fails(TooMany, write_stream, picture, MANY_OPTIONS.changed(**region), most=4000)


class ReadStreamTest(PressTest):
    def check(self, found, frame, options, packets):
        """Checks what was read."""
        self.same(found[0], frame)
        self.assertIs(found[1].__class__, Options)
        self.assertTrue(found[1] == options)
        self.same(found[2], packets)
        self.same(len(found), 3)

    def test_written_out(self):
        data = write_stream(ONE, Options(levels=0))
        self.check(read_stream(data), (0, 0, 1, 1, 1), Options(levels=0), (((0, 0, 0, 0), (253, 219, 128, 144)),))
        self.same(read_stream(data[:24])[2], ())

    def test_whole_streams(self):
        for picture, frame, options, _ in cases(2):
            packets = pack(picture, options)
            if sum(len(data) for _, data in packets) < 3900:
                self.check(read_stream(write_stream(picture, options)), frame, options, packets)
        for order in ALL_ORDERS:
            options = Options(order=order, cuts=(4, 0))
            picture = some_picture((3, 4, 5, 6, 2), 0)
            self.check(read_stream(write_stream(picture, options)), (3, 4, 5, 6, 2), options, pack(picture, options))

    def test_cut_at_every_place(self):
        for picture, frame, options, o in (*small_cases(19), *cases(67)):
            packets = pack(picture, options)
            data = write_stream(picture, options)
            header = len(codec.header(frame, o))
            for count in range(header):
                self.fails(BadStream, read_stream, data[:count], position=count)
            whole, position = 0, header
            for count in range(header, len(data) + 1):
                while whole < len(packets) and position + len(packets[whole][1]) <= count:
                    position += len(packets[whole][1])
                    whole += 1
                if count < header + 40 or count % 7 == 0 or count == len(data):
                    self.check(read_stream(data[:count]), frame, options, packets[:whole])

    def test_each_byte_of_the_header_changed(self):
        for header in (PLAIN_HEADER, REGION_HEADER, (66, 80, 99, 99, *PLAIN_HEADER[4:]),
                       (66, 80, 90, 97, 10, 3, *PLAIN_HEADER[6:])):
            for place in range(len(header)):
                allowed = header_allowed(header[:place])
                self.assertIn(header[place], allowed)
                for byte in range(256):
                    some = (*header[:place], byte)
                    if byte not in allowed:
                        self.fails(BadStream, read_stream, some, position=place)
                        self.fails(BadStream, read_stream, (*some, *header[place + 1:], 0, 0), position=place)
                    elif place < 19 or len(some) < header_length((*some, *header[place + 1:])):
                        self.fails(BadStream, read_stream, some, position=place + 1)

    def test_a_byte_of_the_header_that_makes_others_wrong(self):
        self.fails(BadStream, read_stream, (66, 80, 99, 0, 2, 1, *PLAIN_HEADER[6:]), position=4)
        self.fails(BadStream, read_stream, (66, 80, 0, 85, 16, 16, *PLAIN_HEADER[6:]), position=5)
        self.fails(BadStream, read_stream, (*PLAIN_HEADER[:12], 116, *PLAIN_HEADER[13:]), position=12)
        # No region begins in row 100.
        for region, position in (((100, 0, 100, 1), 19), ((0, 100, 1, 100), 20), ((5, 5, 5, 6), 21), ((5, 5, 6, 4), 22),
                                 ((0, 0, 101, 1), 21), ((0, 0, 1, 101), 22), ((101, 101, 101, 101), 19)):
            self.fails(BadStream, read_stream, (*PLAIN_HEADER[:18], 4, *region, 1, 0), position=position)
        for cuts, position in (((0,), 19), ((5, 1, 1, 1, 1, 1), 19), ((1, 95), 20), ((2, 5, 6), 21),
                               ((4, 9, 9, 9, 10), 23)):
            self.fails(BadStream, read_stream, (*PLAIN_HEADER[:19], *cuts), position=position)

    def test_nothing_but_a_header(self):
        found = read_stream(REGION_HEADER)
        options = Options(kernel="long", levels=3, side=8, order="crtl", tile_height=5, colors=True, shift=16,
                          region=(2, 98, 5, 99), cuts=(30, 30, 7, 0))
        self.check(found, (7, 9, 3, 4, 3), options, ())
        self.fails(BadStream, read_stream, (), position=0)
        self.fails(BadStream, read_stream, (66,), position=1)
        self.fails(BadStream, read_stream, (80,), position=0)

    def test_bytes_left_over(self):
        for picture, _, options, _ in small_cases(9, 1):
            data = write_stream(picture, options)
            for more in ((0,), (255,), (0,) * 20):
                self.fails(BadStream, read_stream, data + more, position=len(data))

    def test_packets_that_cannot_be(self):
        number = codec.number_bits

        def data(bits, *more):
            bits += "0" * (-len(bits) % 8)
            return (*PLAIN_HEADER, *(int(bits[k:k + 8], 2) for k in range(0, len(bits), 8)), *more)

        header = len(PLAIN_HEADER)
        self.fails(BadStream, read_stream, data("11" + number(32) + number(0)), position=header)
        self.fails(BadStream, read_stream, data("11" + number(31) + number(1)), position=header)
        # Planes are looked at when the number of passes has been read: until then, the stream may be cut.
        self.same(read_stream(data("11" + number(32) + "111"))[2], ())
        self.same(read_stream(data("11" + number(31) + "111"))[2], ())
        self.fails(BadStream, read_stream, data("11" + number(32) + "11100000"), position=header)
        self.fails(BadStream, read_stream, data("11" + number(31) + number(0) + number(0), 0), position=header + 2)
        # A segment that is not there to its end.
        self.same(read_stream(data("11" + number(31) + number(0) + number(4)))[2], ())
        self.same(read_stream(data("11" + number(31) + number(0) + number(4), 1, 2, 3))[2], ())
        self.same(len(read_stream(data("11" + number(31) + number(0) + number(4), 1, 2, 3, 4))[2]), 1)
        self.same(read_stream(data("11" + "1" * 60))[2], ())

    def test_trees_that_no_values_fit(self):
        header = (*PLAIN_HEADER[:5], 5, *PLAIN_HEADER[6:])
        self.fails(BadStream, read_stream, (*header, 0b11000000), position=21)
        self.same(read_stream((*header, 0b10000000))[2], (((0, 0, 0, 0), (128,)),))
        header = (*header[:-2], 2, 9, 0)
        self.fails(BadStream, read_stream, (*header, 0, 0b11000000), position=23)
        self.same(len(read_stream((*header, 0, 0b10000000))[2]), 2)

    def test_spoiled_streams(self):
        found = {"cut": 0, "bad": 0, "whole": 0}
        for seed, (picture, frame, options, o) in enumerate(small_cases(2, 1)):
            if max(frame[2:4]) < 6:
                source = random.Random(seed)
                data = write_stream(picture, options)
                start = len(codec.header(frame, o))
                for _ in range(4):
                    place = source.randrange(start, len(data))
                    some = (*data[:place], *spoiled(data[place:], source))
                    expected = codec.read_all(frame, o, some, start)
                    if isinstance(expected, int):
                        self.fails(BadStream, read_stream, some, position=expected)
                        found["bad"] += 1
                    else:
                        self.check(read_stream(some), frame, options, expected)
                        found["whole" if len(expected) == len(packet_keys(frame, options)) else "cut"] += 1
        self.assertTrue(min(found.values()) > 20, msg=found)

    def test_too_many_packets(self):
        header = codec.header(MANY_FRAME, {**codec.DEFAULTS, "levels": 3, "tile_height": 1, "tile_width": 1,
                                           "cuts": (9, 0)})
        self.fails(TooMany, read_stream, header, most=4000)
        self.fails(TooMany, read_stream, (*header, 255, 255), most=4000)
        self.fails(BadStream, read_stream, header[:-1], position=len(header) - 1)

    def test_not_bytes(self):
        wrong = [
            *((value, BadBytes, {"index": None}) for value in
              (None, True, 0, "", "BP", [], list(PLAIN_HEADER), {}, (0,) * 4001, (None,) * 4001)),
            *(((value,), BadBytes, {"index": 0}) for value in NOT_BYTES),
            *(((*PLAIN_HEADER, value, None), BadBytes, {"index": 21}) for value in NOT_BYTES),
            ((1, 2, 256), BadBytes, {"index": 2}),
        ]
        self.check_order(read_stream, [PLAIN_HEADER], [wrong])

    def test_long_streams(self):
        self.fails(BadStream, read_stream, (*PLAIN_HEADER, *(0,) * 3979), position=22)
        self.same(read_stream((*PLAIN_HEADER, *(255,) * 3979))[2], ())
        self.fails(BadBytes, read_stream, (*PLAIN_HEADER, *(0,) * 3980), index=None)


class HeaderTest(PressTest):
    def test_limits_of_frames_and_options(self):
        """What may stand in a header is just what frames and options may be."""
        for top, height in ((0, 16), (84, 16), (99, 1)):
            for region in (None, (0, 0, 1, 1), (99, 99, 100, 100), (98, 5, 100, 6)):
                for cuts in ((94,), (0,), (94, 94, 94), (94, 3, 0)):
                    options = Options(region=region, cuts=cuts, shift=16, tile_width=1, side=8)
                    found = read_stream(write_stream(zeros((top, top, height, height, 1)), options))
                    self.assertTrue(found[1] == options)
                    self.same(found[0], (top, top, height, height, 1))


if __name__ == "__main__":
    unittest.main()
