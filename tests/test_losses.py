"""Points 44 and 45: packets that came while others were lost, and samples that are certain."""

import random
import unittest

from bandpress.errors import BadFrame, BadKeys, BadPackets, NotOptions, TooMany
from bandpress.layout import packet_keys
from bandpress.losses import certain, picture_received, read_received, usable_keys
from bandpress.options import Options
from bandpress.packets import pack
from bandpress.unpacking import picture_of, read_packets
from tests import codec
from tests.helpers import NOT_INTEGERS, PressTest, faults
from tests.pictures import MANY_FRAME, MANY_OPTIONS, NOT_FRAMES, NOT_OPTIONS, cases, small_cases, some_picture, zeros
from tests.spoiling import spoiled
from tests.test_unpacking import NOT_KEYED

FRAME = (0, 0, 1, 1, 2)
OPTIONS = Options(levels=0, cuts=(3, 0))
KEYS = ((0, 0, 0, 0), (0, 1, 0, 0), (0, 0, 0, 1), (0, 1, 0, 1))
PICTURE = (0, 0, (((5,),), ((-9,),)))
NOT_KEYS = (None, True, 0, "", "0000", (), (0, 0, 0), (0, 0, 0, 0, 0), [0, 0, 0, 0], {}, ((0, 0, 0, 0),), (1, 0, 0, 0),
            (0, 2, 0, 0), (0, 0, 1, 0), (0, 0, 0, 2), (-1, 0, 0, 0), (0, 0, 0, -1), (0, 0, 0, 10 ** 30),
            ([], 0, 0, 0), (0, {}, 0, 0), (0, 0, 0, (0,)),
            *((0, value, 0, 0) for value in NOT_INTEGERS), *((value, 0, 0, 0) for value in NOT_INTEGERS),
            *((0, 0, 0, value) for value in NOT_INTEGERS))


def usable(keys):
    """The keys of which the keys of all earlier layers came, too."""
    return [key for key in keys if all((*key[:3], layer) in keys for layer in range(key[3]))]


def some_of(items, source):
    """A tuple of some items, in order: few, most, or all but one."""
    share = source.choice((0.2, 0.5, 0.9))
    if source.random() < 0.3:
        lost = source.randrange(len(items))
        return tuple(items[:lost]) + tuple(items[lost + 1:])
    return tuple(item for item in items if source.random() < share)


class UsableKeysTest(PressTest):
    def test_written_out(self):
        self.same(usable_keys(FRAME, OPTIONS, ()), [])
        self.same(usable_keys(FRAME, OPTIONS, KEYS), list(KEYS))
        self.same(usable_keys(FRAME, OPTIONS, KEYS[1:]), [KEYS[1], KEYS[3]])
        self.same(usable_keys(FRAME, OPTIONS, KEYS[2:]), [])
        self.same(usable_keys(FRAME, Options(levels=0, cuts=(9, 5, 0)), ((0, 0, 0, 0), (0, 0, 0, 2))), [(0, 0, 0, 0)])

    def test_some_keys(self):
        source = random.Random(44)
        for _, frame, options, _ in cases(2):
            keys = packet_keys(frame, options)
            for _ in range(3):
                came = some_of(keys, source)
                self.same(usable_keys(frame, options, came), usable(came))

    def test_all_choices_of_keys(self):
        options = Options(levels=0, cuts=(9, 5, 0), order="lcrt")
        keys = packet_keys(FRAME, options)
        for number in range(2 ** len(keys)):
            came = tuple(key for place, key in enumerate(keys) if number >> place & 1)
            self.same(usable_keys(FRAME, options, came), usable(came))

    def test_wrong_arguments(self):
        wrong = [
            *((value, BadKeys, {"index": None}) for value in
              (None, True, 0, "", "ab", [], list(KEYS), {}, {0: KEYS[0]})),
            *(((value,), BadKeys, {"index": 0}) for value in NOT_KEYS),
            *(((KEYS[0], KEYS[1], value, None), BadKeys, {"index": 2}) for value in (*NOT_KEYS, *KEYS[:2])),
            ((KEYS[1], KEYS[0]), BadKeys, {"index": 1}), ((KEYS[2], KEYS[1]), BadKeys, {"index": 1}),
            ((KEYS[3], KEYS[3]), BadKeys, {"index": 1}), ((*KEYS, KEYS[0]), BadKeys, {"index": 4}),
            ((*KEYS, None), BadKeys, {"index": 4}), (KEYS[::-1], BadKeys, {"index": 1}),
        ]
        self.check_order(usable_keys, [FRAME, OPTIONS, KEYS],
                         [faults(BadFrame, NOT_FRAMES), faults(NotOptions, NOT_OPTIONS), wrong])
        self.fails(TooMany, usable_keys, MANY_FRAME, MANY_OPTIONS, None, most=4000)

    def test_order_of_progression(self):
        # The same keys ascend in one order and not in another one.
        keys = ((0, 1, 0, 0), (0, 0, 0, 1))
        self.same(usable_keys(FRAME, OPTIONS, keys), [keys[0]])
        self.fails(BadKeys, usable_keys, FRAME, OPTIONS.changed(order="tcrl"), keys, index=1)


class ReceivedTest(PressTest):
    def check_received(self, frame, options, packets, came):
        """Checks what packets tell that came: as much as all packets with (0,) in the places of those not usable."""
        keys = usable(tuple(key for key, _ in came))
        told = dict(came)
        # An empty packet tells nothing, and no later one of its tile, component and resolution is usable.
        filled = tuple((key, told[key] if key in keys else (0,)) for key, _ in packets)
        self.same(read_received(frame, options, came), read_packets(frame, options, filled))
        self.same(picture_received(frame, options, came), picture_of(frame, options, filled))

    def test_all_packets_and_the_first_ones(self):
        for picture, frame, options, _ in cases(5):
            packets = pack(picture, options)
            for count in (0, 1, len(packets) // 2, len(packets)):
                some = packets[:count]
                self.same(read_received(frame, options, some), read_packets(frame, options, some))
                self.same(picture_received(frame, options, some), picture_of(frame, options, some))

    def test_each_packet_lost_in_turn(self):
        for number, (picture, frame, options, _) in enumerate(small_cases(7)):
            packets = pack(picture, options)
            for lost in range(number % 3, len(packets), 1 + len(packets) // 12):
                self.check_received(frame, options, packets, packets[:lost] + packets[lost + 1:])

    def test_some_packets(self):
        source = random.Random(4)
        for picture, frame, options, _ in cases(3, 1):
            packets = pack(picture, options)
            self.check_received(frame, options, packets, some_of(packets, source))

    def test_packets_that_are_not_usable_are_not_read(self):
        packets = pack(PICTURE, OPTIONS)
        for data in ((), (255,), (255,) * 4000, (1, 2, 3)):
            came = (packets[1], (KEYS[2], data), packets[3])
            self.same(read_received(FRAME, OPTIONS, came), read_received(FRAME, OPTIONS, (packets[1], packets[3])))
            self.same(picture_received(FRAME, OPTIONS, came), (0, 0, (((0,),), ((-9,),))))
            self.same(certain(FRAME, OPTIONS, came), (((False,),), ((True,),)))

    def test_bad_packets_that_are_usable(self):
        packets = pack(PICTURE, OPTIONS)
        for call in (read_received, picture_received, certain):
            for data in ((), (255,), (255,) * 4000, (0, 0)):
                for place in range(4):
                    came = (*packets[:place], (KEYS[place], data), *packets[place + 1:])
                    self.fails(BadPackets, call, FRAME, OPTIONS, came, index=place)
                    self.fails(BadPackets, call, FRAME, OPTIONS, (*came[:place + 1], None), index=place)
                # A fault of the form that stands earlier is told, though a later packet is usable and bad.
                self.fails(BadPackets, call, FRAME, OPTIONS, (packets[0], None, (KEYS[2], data)), index=1)
                self.fails(BadPackets, call, FRAME, OPTIONS, (packets[1], (KEYS[2], data), None), index=2)
                self.fails(BadPackets, call, FRAME, OPTIONS, ((KEYS[1], data),), index=0)

    def test_spoiled_packets(self):
        found = {True: 0, False: 0}
        source = random.Random(45)
        for picture, frame, options, o in small_cases(3, 2):
            if max(frame[2:4]) < 6:
                packets = pack(picture, options)
                came = list(some_of(packets, source)) or [packets[0]]
                place = source.randrange(len(came))
                came[place] = (came[place][0], spoiled(came[place][1], source))
                keys = usable(tuple(key for key, _ in came))
                expected = codec.read_packets(frame, o, [item for item in came if item[0] in keys])
                if isinstance(expected, int):
                    index = [key for key, _ in came].index(keys[expected])
                    self.fails(BadPackets, read_received, frame, options, tuple(came), index=index)
                else:
                    self.same(read_received(frame, options, tuple(came)), expected)
                    self.same(certain(frame, options, tuple(came)), codec.certain(frame, o, expected))
                found[isinstance(expected, int)] += 1
        self.assertTrue(min(found.values()) > 5)

    def test_wrong_arguments(self):
        packets = pack(PICTURE, OPTIONS)
        not_keyed = [value for value in NOT_KEYED if value != ((0, 0, 0, 1), (0,))]
        wrong = [
            *((value, BadPackets, {"index": None}) for value in
              (None, True, 0, "", "ab", [], list(packets), {}, {0: packets[0]})),
            *(((value,), BadPackets, {"index": 0}) for value in not_keyed),
            *(((packets[0], value, None), BadPackets, {"index": 1}) for value in (*not_keyed, packets[0])),
            *((((key, (0,)),), BadPackets, {"index": 0}) for key in NOT_KEYS),
            ((*packets[:2], packets[1]), BadPackets, {"index": 2}),
            ((packets[1], packets[0]), BadPackets, {"index": 1}), ((*packets, packets[3]), BadPackets, {"index": 4}),
            ((packets[2], packets[1], None), BadPackets, {"index": 1}),
        ]
        for call in (read_received, picture_received, certain):
            self.check_order(call, [FRAME, OPTIONS, packets],
                             [faults(BadFrame, NOT_FRAMES), faults(NotOptions, NOT_OPTIONS), wrong])
            self.fails(TooMany, call, MANY_FRAME, MANY_OPTIONS, None, most=4000)


class CertainTest(PressTest):
    def test_written_out(self):
        packets = pack(PICTURE, OPTIONS)
        self.same(certain(FRAME, OPTIONS, ()), (((False,),), ((False,),)))
        self.same(certain(FRAME, OPTIONS, packets), (((True,),), ((True,),)))
        self.same(certain(FRAME, OPTIONS, packets[:3]), (((True,),), ((False,),)))
        # A block of zeros never has a pass.
        self.same(certain(FRAME, OPTIONS, pack(zeros(FRAME), OPTIONS)), (((False,),), ((False,),)))

    def test_against_the_reference(self):
        source = random.Random(46)
        for picture, frame, options, o in cases(2):
            packets = pack(picture, options)
            for came in (packets, some_of(packets, source)):
                expected = codec.certain(frame, o, read_received(frame, options, came))
                self.same(certain(frame, options, came), expected)

    def test_certain_samples_are_those_of_the_picture(self):
        source = random.Random(47)
        found = {True: 0, False: 0}
        for picture, frame, options, _ in cases():
            packets = pack(picture, options)
            came = some_of(packets, source)
            answers, shown = certain(frame, options, came), picture_received(frame, options, came)
            for component, rows, others in zip(answers, shown[2], picture[2]):
                for row, samples, right in zip(component, rows, others):
                    for answer, sample, other in zip(row, samples, right):
                        found[answer] += 1
                        self.assertTrue(not answer or sample == other)
        self.assertTrue(min(found.values()) > 100)

    def test_each_packet_lost_in_turn(self):
        for seed, given in enumerate((
                {"levels": 2, "cuts": (6, 0)}, {"levels": 1, "tile_height": 4, "tile_width": 3},
                {"levels": 1, "colors": True}, {"levels": 2, "kernel": "long"},
                {"levels": 1, "region": (4, 4, 9, 9), "shift": 10, "cuts": (30, 0)})):
            picture = some_picture((3, 2, 6, 7, 3), 5 * seed)
            options, o = Options(**given), {**codec.DEFAULTS, **given}
            packets = pack(picture, options)
            for lost in range(len(packets)):
                came = packets[:lost] + packets[lost + 1:]
                answers = certain((3, 2, 6, 7, 3), options, came)
                self.same(answers, codec.certain((3, 2, 6, 7, 3), o, read_received((3, 2, 6, 7, 3), options, came)))
                shown = picture_received((3, 2, 6, 7, 3), options, came)
                for answered, told, right in zip(answers, shown[2], picture[2]):
                    self.same([sample for row, line in zip(answered, told) for yes, sample in zip(row, line) if yes],
                              [sample for row, line in zip(answered, right) for yes, sample in zip(row, line) if yes])

    def test_colors_need_all_three_components(self):
        picture = some_picture((0, 0, 4, 4, 3), 0)
        for colors in (False, True):
            options = Options(levels=0, colors=colors, order="ctrl")
            packets = pack(picture, options)
            self.same([[all(row) for row in rows] for rows in certain((0, 0, 4, 4, 3), options, packets[:2])],
                      [[False] * 4] * 3 if colors else [[True] * 4, [True] * 4, [False] * 4])
            self.same(certain((0, 0, 4, 4, 3), options, packets), (((True,) * 4,) * 4,) * 3)
        # Two components are never turned.
        options = Options(levels=0, colors=True, order="ctrl")
        two = (0, 0, picture[2][:2])
        self.same(certain((0, 0, 4, 4, 2), options, pack(two, options)[:1]),
                  (((True,) * 4,) * 4, ((False,) * 4,) * 4))

    def test_ranges_divided_for_a_region(self):
        picture = (0, 0, (((0, 5, 200, -3),),))
        for cut, expected in ((0, (True,) * 4), (3, (False, False, True, False)), (9, (False, False, True, False)),
                              (12, (False,) * 4)):
            options = Options(levels=0, region=(0, 2, 1, 3), shift=3, cuts=(cut,))
            frame = (0, 0, 1, 4, 1)
            packets = pack(picture, options)
            self.same(certain(frame, options, packets), ((expected,),))
            self.same(certain(frame, options, packets),
                      codec.certain(frame, {**codec.DEFAULTS, "levels": 0, "region": (0, 2, 1, 3), "shift": 3},
                                    read_received(frame, options, packets)))

    def test_a_shift_without_a_region_does_nothing(self):
        # The range from 4 to 5 is divided into one value, 1, only if there is a region.
        for region, expected in ((None, False), ((0, 0, 1, 1), True)):
            options = Options(levels=0, region=region, shift=2)
            packets = pack((0, 0, (((1 if region else 5,),),)), options.changed(cuts=(3,)))
            self.same(certain((0, 0, 1, 1, 1), options, packets), (((expected,),),))

    def test_pictures_with_a_region_of_exact_samples(self):
        picture = some_picture((1, 2, 8, 9, 1), 5)
        for shift in (9, 11, 16):
            options = Options(levels=2, region=(3, 4, 6, 8), shift=shift, cuts=(3 * shift,))
            shown = picture_of((1, 2, 8, 9, 1), options, pack(picture, options))
            self.same([row[2:6] for row in shown[2][0][2:5]], [row[2:6] for row in picture[2][0][2:5]])


if __name__ == "__main__":
    unittest.main()
