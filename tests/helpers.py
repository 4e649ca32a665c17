"""What the tests share: a test case with checks of results and errors, and values of wrong kinds."""

import unittest

from bandpress.errors import PressError
from bandpress.kernels import short_kernel

NOT_INTEGERS = (None, True, False, "", "1", (), (1,), [], [1], {}, {1: 1})
NOT_RATIOS = (None, True, False, 0, 1, "", "12", (), (1,), (1, 2, 3), [1, 2], {1: 2}, {}, (2, 4), (0, 2), (3, 3),
              (0, 0), (1, 0), (1, -2), (0, -1), (-1, -1), (True, 2), (1, True), (False, 1), ("1", 2), (1, None),
              ((1, 1), 1), (1, [1]))
NOT_KERNELS = (None, True, 0, "short", (), (((1,), 0),), [], {}, ((((-1,), 1), ((1,), 2)),))
NOT_SPANS = (None, True, 5, "", "01", (), (0,), (0, 1, 2), [0, 1], {0: 1, 1: 2}, (1, 0), (-999, -1000), (True, 2),
             (0, True), (False, False), ("0", "1"), (None, None), ((0,), 1), (0, (1,)), (-1001, 0), (-1001, -1001),
             (0, 1001), (1001, 1001))
NOT_SIGNALS = (None, True, 0, "", "01", (), (0,), (0, (1,), 2), [0, (1, 2)], (0, [1, 2]), (0, {}), (0, "12"), (0, 5),
               (0, None), {}, {0: 1, 1: 2}, (True, (1, 2)), (False, ()), (None, ()), ("0", ()), ((0,), ()), (-1001, ()),
               (901, ()), (-1001, (1, 2)), (901, (1, 2)))
NOT_WHOLE_SIGNALS = (*NOT_SIGNALS, *((0, (sample,)) for sample in (*NOT_INTEGERS, (1, 2))), (0, (1, 2, None)),
                     (0, (1, True, 2)), (0, (0,) * 65), (900, (0,) * 65))
NOT_EXACT_SIGNALS = (*NOT_SIGNALS, *((0, (value,)) for value in NOT_RATIOS), (0, ((1, 1), (2, 4))), (0, ((1, 1), 1)),
                     (0, [(1, 1)]), (0, ((1, 1),) * 65), (901, ((1, 1),) * 2), (-1001, ((1, 1),) * 2),
                     (True, ((1, 1),) * 2))
NOT_SIGNAL_SPANS = (*NOT_SPANS, (0, 0), (900, 900), (-1000, -1000), (0, 65), (901, 902), (900, 965), (901, 901),
                    (-1000, -935), (-1000, 1000))
NOT_FOUR_LEVELS = (*NOT_INTEGERS, -1, 5)
NOT_ROWS = (None, True, 5, "", "ab", [], [(1,)], {}, (1,), (None,), (True,), ("",), ([1],), ([],), ({},), ((1,), ()),
            ((), (1,)), ((1, 2), (3,)), ((1,), (2, 3)), ((1,), [2]), ((1,), 2), (2, (1,)), (True, ()), ((True,),),
            ((None,),), (("1",),), (((1,),),), (((),),), (([1],),), ((1, False),), ((1,), (None,)),
            ((1,), (2,), (3, 4)), ((1,),) * 17, ((0,) * 17,), ((),) * 17)
NOT_PLANES = (None, True, 0, "", "abc", (), (0,), (0, 0), (0, 0, (), ()), [0, 0, ()], {}, {0: 0, 1: 0, 2: ()},
              ((), 0, 0), *((0, 0, rows) for rows in NOT_ROWS), (-1001, 0, ()), (0, 901, ()),
              *((top, 0, ((1,),)) for top in (*NOT_INTEGERS, -1001, 901, 10 ** 30)),
              *((0, left, ((1,),)) for left in (*NOT_INTEGERS, -1001, 901, -10 ** 30)))
NOT_TABLES = (None, True, 0, "own", (), ((1, 0, 0, 0),), [], {}, short_kernel())
NOT_BITS = (*NOT_INTEGERS, -1, 2, (0,), 10 ** 30)
NOT_CONTEXTS = (*NOT_INTEGERS, -1, 32, (0,), -10 ** 30)
NOT_PAIRS = (None, True, 0, 1, "", "01", (), (0,), (0, 1, 2), [0, 1], [], {}, {0: 1, 1: 0}, ((0, 1),),
             *((bit, 0) for bit in NOT_BITS), *((0, context) for context in NOT_CONTEXTS))
NOT_BYTES = (*NOT_INTEGERS, -1, 256, (0,), 10 ** 30)
NOT_COEFFICIENTS = (*NOT_INTEGERS, (1, 2), 2 ** 32, -2 ** 32, 10 ** 30)
NOT_BLOCK_ROWS = (None, True, 5, "", "ab", (), ((),), ((), ()), [], [(1,)], {}, (1,), (None,), (True,), ("",),
                  ([1],), ([],), ({},), ((1,), ()), ((), (1,)), ((1, 2), (3,)), ((1,), (2, 3)), ((1,), [2]), ((1,), 2),
                  (2, (1,)), ((0,),) * 9, ((0,) * 9,))
NOT_BLOCKS = (*NOT_BLOCK_ROWS, *(((value,),) for value in NOT_COEFFICIENTS), ((1, 2), (3, None)), ((1, 2), (True, 4)))
NOT_SIDES = (*NOT_INTEGERS, 0, 9, -1, 10 ** 30)
NOT_SHAPES = (None, True, 8, "", "12", (), (1,), (1, 2, 3), [1, 2], {}, {1: 1, 2: 2}, ((1, 2),),
              *((side, 3) for side in NOT_SIDES), *((3, side) for side in NOT_SIDES))
NOT_SLOPES = (*NOT_RATIOS, (-1, 1), (-3, 2), (-1, 10 ** 30))


class PressTest(unittest.TestCase):
    """A test case that compares values together with their kinds."""

    def same(self, value, expected):
        """Checks that two values are equal, and that integers, True and False, tuples and lists agree."""
        self.assertEqual(value, expected)
        self.assertEqual(kinds(value), kinds(expected))

    def fails(self, error, call, *arguments, **fields):
        """Checks that a call raises just this error with these fields, and leaves its arguments alone."""
        before = [kinds(argument) for argument in arguments]
        with self.assertRaises(PressError, msg=repr(arguments)[:300]) as caught:
            call(*arguments)
        self.assertIs(caught.exception.__class__, error, msg=repr(arguments)[:300])
        for name, worth in fields.items():
            self.same(getattr(caught.exception, name), worth)
        self.assertEqual([kinds(argument) for argument in arguments], before)

    def check_order(self, call, right, wrong):
        """Checks wrong arguments, each alone and with all later ones wrong too.

        right are arguments without a fault; wrong has for each of them a list of tuples (value, error, fields).
        """
        call(*right)
        for place, faults in enumerate(wrong):
            for value, error, fields in faults:
                alone = [*right[:place], value, *right[place + 1:]]
                self.fails(error, call, *alone, **fields)
                later = [others[0][0] if others else right[place + 1 + k]
                         for k, others in enumerate(wrong[place + 1:])]
                self.fails(error, call, *right[:place], value, *later, **fields)


def faults(error, values, **fields):
    """A list for check_order: each of the values raises this error with these fields."""
    return [(value, error, fields) for value in values]


def kinds(value):
    """A value with the names of its kinds all through; own objects are told by their attributes."""
    name = value.__class__.__name__
    if isinstance(value, (tuple, list)):
        return (name, [kinds(item) for item in value])
    if isinstance(value, dict):
        return (name, [(kinds(key), kinds(value[key])) for key in value])
    if value is None or isinstance(value, (int, str)):
        return (name, value)
    return (name, kinds(vars(value)))
