"""Point 52: a desk, on which a stream is changed step by step, and back."""

import random
import unittest

from bandpress.desks import Desk
from bandpress.errors import BadBytes, BadFrame, BadNumber, BadOptions, BadStream, BadTiles, NothingToUndo, TooMany
from bandpress.options import Options
from bandpress.packets import pack
from bandpress.streams import read_stream, write_stream
from bandpress.transcoding import crop, keep_components, keep_layers, keep_levels, reorder
from bandpress.unpacking import picture_of
from tests import codec
from tests.helpers import NOT_INTEGERS, PressTest
from tests.pictures import MANY_FRAME, cases, small_cases, some_picture
from tests.test_options import WRONG

FUNCTIONS = {"keep_layers": keep_layers, "keep_levels": keep_levels, "keep_components": keep_components, "crop": crop,
             "reorder": reorder}
FRAME = (3, 5, 9, 10, 3)
OPTIONS = Options(tile_height=8, tile_width=4, levels=2, cuts=(9, 4, 0))


def small_picture():
    top, left, components = some_picture(FRAME, 0)
    return top, left, tuple(tuple(tuple(sample // 8 for sample in row) for row in rows) for rows in components)


class DeskTest(PressTest):
    def check_desk(self, desk, state, depth):
        """Checks all that a desk tells of itself."""
        frame, options, packets = state
        self.same(desk.shown(), picture_of(frame, options, packets))
        data = desk.as_stream()
        self.same(data, codec.header(frame, {name: getattr(options, name) for name in codec.DEFAULTS})
                  + tuple(byte for _, told in packets for byte in told))
        found = read_stream(data)
        self.same(found[0], frame)
        self.assertTrue(found[1] == options)
        self.same(found[2], packets)
        self.same(desk.depth, depth)

    def test_written_out(self):
        desk = Desk(write_stream((0, 0, (((5,),),)), Options(levels=0, cuts=(3, 0))))
        self.same(desk.depth, 0)
        self.same(desk.keep_layers(1), None)
        self.same([desk.shown(), desk.depth], [(0, 0, (((4,),),)), 1])
        self.same(desk.undo(), None)
        self.same([desk.shown(), desk.depth], [(0, 0, (((5,),),)), 0])

    def test_as_it_begins(self):
        for picture, frame, options, _ in (*small_cases(5), *cases(31)):
            data = write_stream(picture, options)
            desk = Desk(data)
            self.same(desk.as_stream(), data)
            self.check_desk(desk, (frame, options, pack(picture, options)), 0)

    def test_each_step(self):
        picture = small_picture()
        for name, argument in (("keep_layers", 2), ("keep_layers", 3), ("keep_levels", 0), ("keep_levels", 1),
                               ("keep_levels", 2), ("keep_components", 1), ("keep_components", 3),
                               ("crop", (0, 1, 1, 3)), ("crop", (0, 0, 2, 3)), ("reorder", "crtl"),
                               ("reorder", "tlrc")):
            desk = Desk(write_stream(picture, OPTIONS))
            start = (FRAME, OPTIONS, pack(picture, OPTIONS))
            self.same(getattr(desk, name)(argument), None)
            self.check_desk(desk, FUNCTIONS[name](*start, argument), 1)
            self.same(desk.undo(), None)
            self.check_desk(desk, start, 0)
            self.fails(NothingToUndo, desk.undo)
            self.check_desk(desk, start, 0)

    def test_steps_one_after_another(self):
        steps = {"keep_layers": (1, 2, 3, 4), "keep_levels": (0, 1, 2), "keep_components": (1, 2, 3),
                 "crop": ((0, 0, 1, 1), (0, 0, 2, 2), (1, 0, 2, 1), (0, 1, 1, 3)), "reorder": ("lrct", "ctrl", "xyz")}
        failed = 0
        for seed in range(12):
            source = random.Random(52 + seed)
            desk = Desk(write_stream(small_picture(), OPTIONS))
            states = [(FRAME, OPTIONS, pack(small_picture(), OPTIONS))]
            for _ in range(14):
                if source.random() < 0.3:
                    if len(states) > 1:
                        desk.undo()
                        states.pop()
                    else:
                        self.fails(NothingToUndo, desk.undo)
                else:
                    name = source.choice(sorted(steps))
                    argument = source.choice(steps[name])
                    try:
                        states.append(FUNCTIONS[name](*states[-1], argument))
                    except (BadNumber, BadOptions, BadTiles, BadFrame) as error:
                        self.fails(error.__class__, getattr(desk, name), argument)
                        failed += 1
                    else:
                        getattr(desk, name)(argument)
                self.check_desk(desk, states[-1], len(states) - 1)
            while len(states) > 1:
                desk.undo()
                states.pop()
                self.check_desk(desk, states[-1], len(states) - 1)
            self.fails(NothingToUndo, desk.undo)
            self.fails(NothingToUndo, desk.undo)
            self.same(desk.shown(), small_picture())
        self.assertTrue(failed > 10)

    def test_steps_that_raise_change_nothing(self):
        picture = some_picture((3, 4, 5, 6, 3), 0)
        for given in ({"colors": True, "levels": 1, "tile_width": 3}, {"region": (0, 0, 100, 100), "levels": 1},
                      {"tile_height": 5, "levels": 1}):
            options = Options(cuts=(5, 0), **given)
            desk = Desk(write_stream(picture, options))
            desk.keep_layers(1)
            state = ((3, 4, 5, 6, 3), options.changed(cuts=(5,)), pack(picture, options.changed(cuts=(5,))))
            self.check_desk(desk, state, 1)
            for value in (*NOT_INTEGERS, 0, 2, -1):
                self.fails(BadNumber, desk.keep_layers, value)
            for value in (*NOT_INTEGERS, -1, 2):
                self.fails(BadNumber, desk.keep_levels, value)
            for value in (*NOT_INTEGERS, 0, 4):
                self.fails(BadNumber, desk.keep_components, value)
            for value in (None, (), (0, 0, 9, 9), (1, 0, 1, 1), [0, 0, 1, 1], True):
                self.fails(BadTiles, desk.crop, value)
            for value in WRONG["order"]:
                self.fails(BadOptions, desk.reorder, value, name="order")
            name = "region" if "region" in given else "tile_height" if "tile_height" in given else "tile_width"
            self.fails(BadOptions, desk.keep_levels, 0, name=name)
            if "colors" in given:
                self.fails(BadOptions, desk.keep_components, 2, name="colors")
            self.check_desk(desk, state, 1)
        desk = Desk(write_stream((1, 1, (((5,),),)), Options(levels=1)))
        self.fails(BadFrame, desk.keep_levels, 0)
        self.same([desk.shown(), desk.depth], [(1, 1, (((5,),),)), 0])

    def test_steps_that_leave_the_stream_as_it_is_are_steps(self):
        desk = Desk(write_stream(small_picture(), OPTIONS))
        for depth, (name, argument) in enumerate((("keep_layers", 3), ("keep_levels", 2), ("keep_components", 3),
                                                  ("crop", (0, 0, 2, 3)), ("reorder", "tlrc"))):
            getattr(desk, name)(argument)
            self.check_desk(desk, (FRAME, OPTIONS, pack(small_picture(), OPTIONS)), depth + 1)

    def test_two_desks(self):
        data = write_stream(small_picture(), OPTIONS)
        one, other = Desk(data), Desk(data)
        one.keep_layers(1)
        self.same([one.depth, other.depth], [1, 0])
        self.same(other.shown(), small_picture())

    def test_packets_that_nobody_has_written(self):
        # Bits that fill up a byte, and a first bit 1 without new passes, stay as they are.
        header = codec.header((0, 0, 1, 1, 1), {**codec.DEFAULTS, "levels": 1})
        desk = Desk((*header, 127, 255 - 64))
        self.same(desk.as_stream(), (*header, 127, 191))
        desk.keep_levels(0)
        self.same(desk.as_stream()[-1:], (127,))
        self.same(desk.shown(), (0, 0, (((0,),),)))

    def test_cut_streams(self):
        for picture, frame, options, o in small_cases(31):
            data = write_stream(picture, options)
            for count in range(0, len(data), 1 + len(data) // 40):
                self.fails(BadStream, Desk, data[:count], position=count)
            self.fails(BadStream, Desk, data[:-1], position=len(data) - 1)
            self.fails(BadStream, Desk, data + (0,), position=len(data))
            header = codec.header(frame, o)
            self.fails(BadStream, Desk, header, position=len(header))

    def test_wrong_streams(self):
        for value in (None, True, 0, "", "BP", [], [66, 80], {}, (0,) * 4001):
            self.fails(BadBytes, Desk, value, index=None)
        self.fails(BadBytes, Desk, (66, 256), index=1)
        self.fails(BadStream, Desk, (66, 81), position=1)
        self.fails(BadStream, Desk, (), position=0)
        header = codec.header((0, 0, 1, 1, 1), {**codec.DEFAULTS, "levels": 0})
        bits = "11" + codec.number_bits(40) + codec.number_bits(0) + "0"
        self.fails(BadStream, Desk, (*header, int(bits[:8], 2), int(bits[8:16], 2)), position=len(header))
        header = codec.header(MANY_FRAME, {**codec.DEFAULTS, "levels": 3, "tile_height": 1, "tile_width": 1,
                                           "cuts": (9, 0)})
        self.fails(TooMany, Desk, header, most=4000)


if __name__ == "__main__":
    unittest.main()
