"""The interface as a whole: names and arguments, the examples, and point 1 over all functions."""

import importlib
import inspect
import random
import unittest

from bandpress.coder import encode, interval
from bandpress.desks import Desk
from bandpress.encoders import Decoder, Encoder
from bandpress.errors import PressError
from bandpress.kernels import Kernel, short_kernel
from bandpress.lifting import analyze
from bandpress.options import Options
from bandpress.packets import pack
from bandpress.passes import decisions, known
from bandpress.streams import read_stream, write_stream
from bandpress.tables import Table, own_table
from bandpress.tagtrees import TagReader, TagWriter, read_queries, write_queries
from tests.helpers import PressTest, kinds

KERNEL, TABLE = short_kernel(), own_table()
PLANE = (0, 0, ((1, 2), (3, 4)))
BANDS = ((0, 0, ((1,),)),) * 4
BLOCK = ((5, 0, -3),)
POINTS = ((0, 9), (2, 5), (4, 1))
PICTURE = (0, 0, (((5, 7),),))
FRAME = (0, 0, 1, 2, 1)
OPTIONS = Options(levels=1, cuts=(3, 0))
PACKETS = pack(PICTURE, OPTIONS)
KEYS = tuple(key for key, _ in PACKETS)
ONE, HALF = (1, 1), (1, 2)
CHANGE = [FRAME, OPTIONS, PACKETS]
# For each function its arguments' names, and right values of them.
FUNCTIONS = {
    "ratios": {"ratio": ("numerator denominator", [2, 4])},
    "spans": {"low_span": ("span", [(0, 5)]), "high_span": ("span", [(0, 5)]),
              "low_span_after": ("span levels", [(0, 5), 2])},
    "kernels": {"short_kernel": ("", []), "long_kernel": ("", [])},
    "lifting": {"stage": ("kernel signal count", [KERNEL, (0, (1, 2, 3)), 1]),
                "analyze": ("kernel signal", [KERNEL, (0, (1, 2, 3))]),
                "synthesize": ("kernel low high", [KERNEL, (0, (1, 2)), (0, (3,))]),
                "analyze_exactly": ("kernel signal", [KERNEL, (0, (ONE, HALF))]),
                "synthesize_exactly": ("kernel low high", [KERNEL, (0, (ONE,)), (0, (HALF,))])},
    "planes": {"split": ("kernel plane", [KERNEL, PLANE]), "merge": ("kernel ll hl lh hh", [KERNEL, *BANDS])},
    "pyramids": {"decompose": ("kernel plane levels", [KERNEL, PLANE, 1]),
                 "compose": ("kernel pyramid", [KERNEL, (BANDS[0], BANDS[1:])])},
    "filters": {"filters": ("kernel", [KERNEL]), "duals": ("kernel", [KERNEL]),
                "filtered": ("kernel signal", [KERNEL, (0, (ONE, HALF))])},
    "atoms": {"places": ("span levels", [(0, 5), 1]), "atom": ("kernel span levels place", [KERNEL, (0, 5), 1, (0, 1)]),
              "reached": ("kernel span levels place", [KERNEL, (0, 5), 1, (0, 1)]),
              "needed": ("kernel span levels position", [KERNEL, (0, 5), 1, 3]),
              "worst_errors": ("kernel span levels bounds", [KERNEL, (0, 5), 1, (ONE, HALF)]),
              "worst_case": ("kernel span levels bounds position", [KERNEL, (0, 5), 1, (ONE, HALF), 2]),
              "norm": ("kernel span levels place", [KERNEL, (0, 5), 1, (0, 1)]),
              "mean_square": ("kernel span levels bounds", [KERNEL, (0, 5), 1, (ONE, HALF)])},
    "moments": {"moment": ("kernel power", [KERNEL, 2]), "vanishing": ("kernel", [KERNEL]),
                "inner": ("kernel span", [KERNEL, (0, 9)])},
    "quantizers": {"quantize": ("value size", [ONE, HALF]), "dropped": ("number planes", [9, 1]),
                   "cell_of": ("number size", [3, HALF]), "restored": ("number size share", [3, HALF, HALF]),
                   "worst_restored": ("number size share", [3, HALF, HALF])},
    "centers": {"cells_error": ("values cells", [(1, 2, 5), ((1, 2), (5,))]),
                "best_cells": ("values most", [(1, 2, 5), 2]),
                "assigned": ("values centers", [(1, 2, 5), (ONE, (4, 1))]),
                "centers_error": ("values centers", [(1, 2, 5), (ONE, (4, 1))]),
                "moved": ("values centers", [(1, 2, 5), (ONE, (4, 1))]),
                "settle": ("values centers", [(1, 2, 5), (ONE, (4, 1))])},
    "tables": {"own_table": ("", [])},
    "coder": {"interval": ("table pairs", [TABLE, ((0, 5),)]), "doublings": ("table pairs", [TABLE, ((0, 5),)]),
              "encode": ("table pairs", [TABLE, ((0, 5),)]), "decode": ("table data contexts", [TABLE, (72,), (5,)]),
              "is_code": ("table pairs data", [TABLE, ((0, 5),), (72,)]),
              "settled": ("table pairs", [TABLE, ((0, 5),)])},
    "blocks": {"planes_of": ("block", [BLOCK]), "pass_count": ("block", [BLOCK])},
    "passes": {"pass_cells": ("block number", [BLOCK, 0]), "decisions": ("block number", [BLOCK, 0]),
               "known": ("block passes", [BLOCK, 2])},
    "segments": {"segments": ("table block cuts", [TABLE, BLOCK, (1, 7)]),
                 "read_segments": ("table shape planes cuts segments", [TABLE, (1, 3), 3, (1, 7), ((1,), (2,))]),
                 "pass_sizes": ("table block", [TABLE, BLOCK])},
    "distortions": {"middles": ("ranges", [(((1, 4),),)]), "pass_distortions": ("block", [BLOCK])},
    "tagtrees": {"tree_levels": ("values", [((2, 4),)]), "write_queries": ("values queries", [((2, 4),), ((0, 0, 3),)]),
                 "count_bits": ("values queries", [((2, 4),), ((0, 0, 3),)]),
                 "read_queries": ("shape queries bits", [(1, 2), ((0, 0, 1),), (0,)])},
    "numbercodes": {"number_bits": ("number", [5]), "read_number": ("bits position", [(1, 0, 0), 0])},
    "hulls": {"hull": ("points", [POINTS]), "edges": ("points", [POINTS]), "slopes_of": ("points index", [POINTS, 1])},
    "allocation": {"total": ("blocks choice", [(POINTS,), (1,)]), "merged_hull": ("blocks", [(POINTS,)]),
                   "merged_choices": ("blocks", [(POINTS,)]), "choice_for": ("blocks slope", [(POINTS,), ONE]),
                   "shows_best": ("blocks choice slope", [(POINTS,), (1,), ONE]),
                   "best_choice": ("blocks size", [(POINTS,), 3]), "best_totals": ("blocks size", [(POINTS,), 3]),
                   "hull_choice": ("blocks size", [(POINTS,), 3]), "gap_bound": ("blocks size", [(POINTS,), 3]),
                   "frontier": ("blocks", [(POINTS,)]), "layers": ("blocks slopes", [(POINTS,), (ONE, HALF)])},
    "pictures": {"frame_of": ("picture", [PICTURE])},
    "layout": {name: ("frame options", [FRAME, OPTIONS]) for name in ("tiles_of", "block_places", "packet_keys")},
    "packets": {name: ("picture options", [PICTURE, OPTIONS]) for name in ("picture_blocks", "pack")},
    "unpacking": {name: ("frame options packets", CHANGE) for name in ("read_packets", "picture_of")},
    "streams": {"write_stream": ("picture options", [PICTURE, OPTIONS]),
                "read_stream": ("data", [write_stream(PICTURE, OPTIONS)])},
    "losses": {"usable_keys": ("frame options keys", [FRAME, OPTIONS, KEYS]),
               **{name: ("frame options packets", CHANGE)
                  for name in ("read_received", "picture_received", "certain")}},
    "transcoding": {"keep_layers": ("frame options packets layers", [*CHANGE, 1]),
                    "keep_components": ("frame options packets many", [*CHANGE, 1]),
                    "reorder": ("frame options packets order", [*CHANGE, "crtl"]),
                    "crop": ("frame options packets tiles", [*CHANGE, (0, 0, 1, 1)]),
                    "keep_levels": ("frame options packets levels", [*CHANGE, 0])},
    "colors": {"turn": ("steps pixel", [(), (1, 2, 3)]), "turn_back": ("steps pixel", [(), (1, 2, 3)]),
               "own_colors": ("", [])},
    "regions": {"support": ("kernel span positions", [KERNEL, (0, 5), (2,)])},
    "shifts": {"least_shift": ("picture options", [PICTURE, Options(region=(0, 0, 1, 1))])},
}
# For each class what it is made from, its methods with their arguments' names, and its properties.
CLASSES = {
    ("kernels", "Kernel"): ("steps", [(((1,), 1),)], {}, "steps"),
    ("tables", "Table"): ("states", [((1, 0, 0, 1),)], {}, "states"),
    ("encoders", "Encoder"): ("table", [TABLE], {"put": ("bit context", [0, 5]), "put_all": ("pairs", [(0, 5), (1, 5)]),
                                                 "flush": ("", [])}, "coded states"),
    ("encoders", "Decoder"): ("table", [TABLE], {"feed": ("data", [(1, 2)]), "take": ("context", [5]),
                                                 "take_all": ("contexts", [5, 6])}, "coded states"),
    ("tagtrees", "TagWriter"): ("values", [((2, 4),)], {"ask": ("row column threshold", [0, 0, 3])}, ""),
    ("tagtrees", "TagReader"): ("height width", [1, 2], {
        "hear": ("row column threshold bits position", [0, 0, 1, (0,), 0]), "limits": ("", [])}, ""),
    ("desks", "Desk"): ("data", [write_stream(PICTURE, OPTIONS)], {
        "keep_layers": ("layers", [1]), "keep_levels": ("levels", [0]), "keep_components": ("many", [1]),
        "crop": ("tiles", [(0, 0, 1, 1)]), "reorder": ("order", ["crtl"]), "undo": ("", []), "shown": ("", []),
        "as_stream": ("", [])}, "depth"),
}
JUNK = (None, True, False, 0, 1, -1, 3, 7, 10 ** 30, -10 ** 30, "", "tlrc", "%", (), (None,), (True,), (0,), (1, 2),
        (0, 0, 0), (1, 1, 1, 1), (0, 0, 1, 1, 1), ((),), ([],), ({},), (((),),), (((1,),),), ((1, 2), (3,)),
        ((0, 0, 0, 0), (0,)), [], [1], [[1]], {}, {1: 2}, {"a": []}, ((1, 2), [3, 4]), (0, 0, ()), (0, 0, ((),)),
        (0, 0, (((1,),),)), KERNEL, TABLE, OPTIONS)


def function(module, name):
    return getattr(importlib.import_module(f"bandpress.{module}"), name)


def arguments(call):
    return " ".join(inspect.signature(call).parameters)


def with_junk(value, source):
    """The value with one part of it, at any depth, in the place of which something else stands."""
    if isinstance(value, tuple) and value and source.random() < 0.7:
        place = source.randrange(len(value))
        return (*value[:place], with_junk(value[place], source), *value[place + 1:])
    if isinstance(value, tuple) and source.random() < 0.3:
        return list(value)
    return source.choice(JUNK)


class InterfaceTest(PressTest):
    def test_functions(self):
        for module, functions in FUNCTIONS.items():
            for name, (names, values) in functions.items():
                call = function(module, name)
                self.same(call.__module__, f"bandpress.{module}")
                self.same(arguments(call), names)
                call(*values)
                call(**dict(zip(names.split(), values)))

    def test_classes(self):
        for (module, name), (names, values, methods, properties) in CLASSES.items():
            made = function(module, name)
            self.same(made.__module__, f"bandpress.{module}")
            self.same(arguments(made), names)
            made(*values)
            for method, (method_names, _) in methods.items():
                self.same(arguments(made.__dict__[method]), f"self {method_names}".strip())
            for one in properties.split():
                self.assertIsInstance(made.__dict__[one], property)
        self.same(arguments(Options), "kernel levels side cuts order tile_height tile_width colors region shift")
        self.same(arguments(Options.__dict__["changed"]), "self more")
        for one in arguments(Options).split():
            self.assertIsInstance(Options.__dict__[one], property)
        for one in (Kernel, Table, Options):
            self.assertIn("__eq__", one.__dict__)

    def test_examples(self):
        self.same(analyze(short_kernel(), (0, (4, 9, 6, 3))), ((0, (6, 6)), (0, (4, -3))))
        self.same(interval(own_table(), ((0, 5), (1, 5))), ((9, 32), (7, 32)))
        self.same(encode(own_table(), ((0, 5), (1, 5))), (72,))
        self.same(decisions(((5, 0, -3),), 0), ((1, 0), (0, 9), (0, 3), (0, 0)))
        self.same(decisions(((5, 0, -3),), 5), ((1, 14), (1, 12)))
        self.same(known(((5, 0, -3),), 4), (((4, 5), (-1, 1), (-3, -2)),))
        self.same(write_queries(((2, 4),), ((0, 0, 3), (0, 1, 3))), (0, 0, 1, 1, 0))
        self.same(read_queries((1, 2), ((0, 0, 3), (0, 1, 3)), (0, 0, 1, 1, 0)), (((2, 2), (3, 30)),))
        picture = (0, 0, (((5,),),))
        self.same(pack(picture, Options(levels=0)), (((0, 0, 0, 0), (253, 219, 128, 144)),))
        self.same(read_stream(write_stream(picture, Options(levels=0))[:24])[2], ())
        desk = Desk(write_stream((0, 0, (((5,),),)), Options(levels=0, cuts=(3, 0))))
        desk.keep_layers(1)
        self.same([desk.shown(), desk.depth], [(0, 0, (((4,),),)), 1])


class WrongKindsTest(PressTest):
    """Whatever the arguments are, a function answers or raises an error of the package, and leaves them alone."""

    def check_call(self, call, values):
        before = kinds(list(values))
        try:
            call(*values)
        except PressError:
            pass
        self.same(kinds(list(values)), before)

    def check_all(self, call, values, source, count):
        for place in range(len(values)):
            for junk in JUNK:
                self.check_call(call, [*values[:place], junk, *values[place + 1:]])
            for _ in range(count):
                self.check_call(call, [*values[:place], with_junk(values[place], source), *values[place + 1:]])

    def test_functions(self):
        source = random.Random(1)
        for module, functions in FUNCTIONS.items():
            for name, (_, values) in functions.items():
                self.check_all(function(module, name), values, source, 40)

    def test_classes(self):
        source = random.Random(2)
        for (module, name), (_, values, methods, _) in CLASSES.items():
            made = function(module, name)
            self.check_all(made, values, source, 40)
            for method, (_, method_values) in methods.items():
                self.check_all(getattr(made(*values), method), method_values, source, 40)
        for name, value in {"kernel": "long", "levels": 1, "side": 8, "cuts": (3, 0), "order": "tcrl", "tile_height": 3,
                            "tile_width": 4, "colors": True, "region": (0, 1, 2, 3), "shift": 4}.items():
            self.check_all(lambda worth: Options(**{name: worth}), [value], source, 40)
            self.check_all(lambda worth: OPTIONS.changed(**{name: worth}), [value], source, 40)

    def test_objects_that_were_asked_wrongly_go_on(self):
        encoder, decoder, writer, reader = Encoder(TABLE), Decoder(TABLE), TagWriter(((2, 4),)), TagReader(1, 2)
        for junk in JUNK[:30]:
            for call in (lambda: encoder.put(junk, None), lambda: decoder.feed((junk, junk, None)),
                         lambda: decoder.take(None), lambda: writer.ask(0, junk, None),
                         lambda: reader.hear(0, 0, 3, (0, 0, junk, None), 0)):
                with self.assertRaises(PressError):
                    call()
        self.same([encoder.coded, decoder.coded, reader.limits()], [0, 0, (((0, 30), (0, 30)),)])
        self.same(writer.ask(0, 0, 3), (0, 0, 1, 1))


if __name__ == "__main__":
    unittest.main()
