"""Options of point 38: their properties, their limits, equality and changes."""

import itertools
import unittest

from bandpress.errors import BadOptions
from bandpress.options import Options
from tests.codec import DEFAULTS
from tests.helpers import NOT_INTEGERS, PressTest
from tests.pictures import GIVEN

ALL_ORDERS = tuple("".join(letters) for letters in itertools.permutations("tcrl"))
RIGHT = {
    "kernel": ("short", "long"),
    "levels": (0, 1, 2, 3),
    "side": (4, 8),
    "cuts": ((0,), (94,), (94, 0), (0, 0), (94, 94, 94, 94), (4, 3, 2, 1), (7, 7, 2)),
    "order": ALL_ORDERS,
    "tile_height": (1, 2, 15, 16),
    "tile_width": (1, 2, 15, 16),
    "colors": (True, False),
    "region": (None, (0, 0, 1, 1), (0, 0, 100, 100), (99, 99, 100, 100), (0, 99, 100, 100), (5, 6, 7, 8)),
    "shift": (0, 1, 16),
}
WRONG = {
    "kernel": (*NOT_INTEGERS, 0, "Short", "short ", "longer", ("short",), ["short"], ("short", "long")),
    "levels": (*NOT_INTEGERS, -1, 4, (2,), 10 ** 30),
    "side": (*NOT_INTEGERS, 0, 3, 5, 6, 7, 9, 16, -4, (4,), 10 ** 30),
    "cuts": (None, True, 0, 5, "", "0", (), [], [0], {}, {0: 0}, (0,) * 5, (94, 80, 60, 40, 20), (0, 1), (94, 95),
             (5, 5, 6), (9, 3, 4, 1), *((value,) for value in (*NOT_INTEGERS, -1, 95, (0,), 10 ** 30)),
             *((7, value) for value in (*NOT_INTEGERS, -1, 8, (0,)))),
    "order": (None, True, 0, 4, "", "t", "tlr", "tlrcc", "tlrct", "ttlr", "TLRC", "tlr ", "tlrx", " tlrc", "llrc", (),
              ("t", "l", "r", "c"), ["t", "l", "r", "c"], {"t": 1, "l": 1, "r": 1, "c": 1}),
    "tile_height": (*NOT_INTEGERS, 0, -1, 17, (16,), 10 ** 30),
    "tile_width": (*NOT_INTEGERS, 0, -1, 17, (16,), 10 ** 30),
    "colors": (None, 0, 1, 2, "", "True", (), (True,), [], [True], {}),
    "region": (True, False, 0, 4, "", "0123", (), (0, 0, 1), (0, 0, 1, 1, 1), [0, 0, 1, 1], {}, (0, 0, 0, 1),
               (0, 0, 1, 0), (5, 0, 4, 9), (0, 5, 9, 4), (-1, 0, 1, 1), (0, -1, 1, 1), (0, 0, 101, 1), (0, 0, 1, 101),
               (100, 0, 100, 1), (0, 100, 1, 100), (None, 0, 1, 1), (0, 0, True, 1), (False, 0, 1, 1),
               (0, False, 1, 1), (0, 0, 1, True), ("0", 0, 1, 1), (0, 0, 1, (1,)), (0, 0, 10 ** 30, 1)),
    "shift": (*NOT_INTEGERS, -1, 17, (0,), 10 ** 30),
}


def made(given):
    """Options with the values of a dict."""
    return Options(**given)


def changed(options, more):
    """Options with the values of a dict replaced."""
    return options.changed(**more)


class OptionsTest(PressTest):
    def check_all(self, options, expected):
        """Checks all properties."""
        for name, value in expected.items():
            self.same(getattr(options, name), value)

    def test_defaults(self):
        self.check_all(Options(), DEFAULTS)
        self.same(list(DEFAULTS), list(WRONG))

    def test_each_option_alone(self):
        for name, values in RIGHT.items():
            for value in values:
                self.check_all(made({name: value}), {**DEFAULTS, name: value})

    def test_several_options(self):
        for given in GIVEN:
            self.check_all(made(given), {**DEFAULTS, **given})

    def test_each_wrong_value_alone(self):
        for name, values in WRONG.items():
            for value in values:
                self.fails(BadOptions, made, {name: value}, name=name)

    def test_first_bad_option_in_the_order_of_the_document(self):
        names = list(WRONG)
        for first, second in itertools.combinations(names, 2):
            for value in WRONG[first][:3]:
                self.fails(BadOptions, made, {first: value, second: WRONG[second][0]}, name=first)
                self.fails(BadOptions, made, {second: WRONG[second][1], first: value}, name=first)
        self.fails(BadOptions, made, {name: WRONG[name][1] for name in reversed(names)}, name="kernel")

    def test_only_by_keyword(self):
        with self.assertRaises(TypeError):
            Options("short")

    def test_equality(self):
        for first, second in itertools.product(GIVEN, repeat=2):
            self.same(made(first) == made(second), first == second)
        for name, values in RIGHT.items():
            for one, other in itertools.product(values, repeat=2):
                self.same(made({name: one}) == made({name: other}), one == other)
                self.same(made({name: one}) != made({name: other}), one != other)
        for other in (None, True, 0, "", (), {}, DEFAULTS, tuple(DEFAULTS.values())):
            self.same(Options() == other, False)


class ChangedTest(PressTest):
    def test_replaces_some(self):
        for given in GIVEN:
            for name, values in RIGHT.items():
                for value in values[:4]:
                    before = made(given)
                    after = changed(before, {name: value})
                    self.assertIs(after.__class__, Options)
                    self.assertTrue(after == made({**given, name: value}))
                    self.assertTrue(before == made(given))

    def test_nothing_to_replace(self):
        for given in GIVEN:
            before = made(given)
            self.assertTrue(before.changed() == before)
            self.assertTrue(changed(before, given) == before)
            self.assertTrue(changed(before, DEFAULTS) == Options())

    def test_wrong_values(self):
        for name, values in WRONG.items():
            for value in values:
                self.fails(BadOptions, changed, Options(levels=1), {name: value}, name=name)
        self.fails(BadOptions, changed, Options(), {"shift": 17, "levels": 4}, name="levels")
        self.fails(BadOptions, changed, Options(), {"region": (), "cuts": ()}, name="cuts")

    def test_first_name_that_is_no_option(self):
        options = Options(side=8)
        self.fails(BadOptions, changed, options, {"layers": 1}, name="layers")
        self.fails(BadOptions, changed, options, {"levels": 9, "Levels": 1, "size": 2}, name="Levels")
        self.fails(BadOptions, changed, options, {"size": 4, "kernel": "none", "Levels": 1}, name="size")
        self.fails(BadOptions, changed, options, {"_options": {}}, name="_options")
        self.fails(BadOptions, changed, options, {"changed": None}, name="changed")
        self.assertTrue(options == Options(side=8))


if __name__ == "__main__":
    unittest.main()
