"""Point 49: color steps, and pixels that they turn."""

import random
import unittest

from bandpress.colors import own_colors, turn, turn_back
from bandpress.errors import BadColors, BadPixel
from tests import codec
from tests.helpers import NOT_INTEGERS, PressTest, faults

# One step and eight, shifts 0 and 8, all targets, weights at the limits, and weights of 0.
STEPS = (
    (),
    ((0, (0, 0, 0), 0),),
    ((0, (0, 1, 0), 0),),
    ((1, (64, 0, -64), 8),),
    ((2, (-3, 5, 0), 1),),
    ((2, (64, 64, 0), 8), (2, (-64, -64, 0), 8)),
    ((0, (0, 0, -1), 0), (2, (1, 0, 0), 1), (1, (0, 0, -1), 0), (2, (0, 1, 0), 1)),
    tuple((k % 3, tuple(0 if j == k % 3 else 7 * k - 30 * j for j in range(3)), k + 1) for k in range(8)),
    tuple((2 - k % 3, tuple(0 if j == 2 - k % 3 else 64 - 128 * ((k + j) % 2) for j in range(3)), 8 - k)
          for k in range(8)),
)
NOT_STEPS = (
    None, True, 0, 5, "", "012", (), (0, (0, 1, 0)), (0, (0, 1, 0), 0, 0), [0, (0, 1, 0), 0], {}, {0: 0, 1: 1, 2: 2},
    *((target, (0, 0, 0), 0) for target in (*NOT_INTEGERS, (0,), -1, 3, 10 ** 30)),
    *((0, weights, 0) for weights in (None, True, 0, "", "012", (), (0, 1), (0, 1, 0, 0), [0, 1, 0], {}, {0: 0})),
    *((1, (weight, 0, 1), 0) for weight in (*NOT_INTEGERS, (1,), -65, 65, 10 ** 30)),
    *((1, (1, 0, weight), 0) for weight in (*NOT_INTEGERS, (1,), -65, 65, -10 ** 30)),
    *((0, (0, weight, 0), 0) for weight in (*NOT_INTEGERS, -65, 65)),
    *((1, (1, weight, 1), 0) for weight in (*NOT_INTEGERS, -1, 1, 64)), (0, (1, 0, 0), 0), (2, (0, 0, -64), 0),
    *((0, (0, 1, 0), shift) for shift in (*NOT_INTEGERS, (0,), -1, 9, 10 ** 30)),
)
RIGHT_STEP = (0, (0, 1, 0), 0)
WRONG_COLORS = [
    *((value, BadColors, {"index": None}) for value in
      (None, True, 0, "", "ab", [], [RIGHT_STEP], {}, {0: RIGHT_STEP}, (RIGHT_STEP,) * 9, (None,) * 9)),
    *(((step,), BadColors, {"index": 0}) for step in NOT_STEPS),
    *(((RIGHT_STEP, RIGHT_STEP, step, None), BadColors, {"index": 2}) for step in NOT_STEPS),
    ((RIGHT_STEP,) * 7 + (None,), BadColors, {"index": 7}),
]
WRONG_PIXELS = faults(BadPixel, (
    None, True, 0, "", "123", (), (1, 2), (1, 2, 3, 4), [1, 2, 3], {}, {0: 1, 1: 2, 2: 3}, ((1, 2, 3),),
    *((value, 2, 3) for value in NOT_INTEGERS), *((1, value, 3) for value in NOT_INTEGERS),
    *((1, 2, value) for value in NOT_INTEGERS)))


def some_pixels():
    """Pixels of small and of great numbers."""
    source = random.Random(49)
    return [(0, 0, 0), (255, -255, 255), (-1, -1, -1), (1, 2, 3), (10 ** 30, -10 ** 30, 7),
            *(tuple(source.randint(-most, most) for _ in range(3)) for most in (3, 255, 10 ** 6, 10 ** 40)
              for _ in range(10))]


class TurnTest(PressTest):
    def test_written_out(self):
        self.same(turn((), (1, 2, 3)), (1, 2, 3))
        self.same(turn(((0, (0, 0, -1), 0),), (9, 2, 3)), (6, 2, 3))
        # The sum 5 and the half 1 are divided by 2 and rounded down.
        self.same(turn(((2, (1, 1, 0), 1),), (2, 3, 0)), (2, 3, 3))
        self.same(turn(((2, (1, 1, 0), 1),), (-2, -3, 0)), (-2, -3, -2))
        self.same(turn(((1, (64, 0, 64), 8),), (1, 0, 1)), (1, 1, 1))
        self.same(turn(((0, (0, 1, 0), 0), (1, (1, 0, 0), 0)), (1, 2, 3)), (3, 5, 3))
        self.same(turn(own_colors(), (10, 20, 30)), (-20, 0, 20))
        self.same(turn_back(own_colors(), (-20, 0, 20)), (10, 20, 30))

    def test_against_the_reference(self):
        for steps in STEPS:
            for pixel in some_pixels():
                self.same(turn(steps, pixel), codec.turned(steps, pixel))
                self.same(turn_back(steps, pixel), codec.turned_back(steps, pixel))

    def test_each_undoes_the_other(self):
        for steps in STEPS:
            for pixel in some_pixels():
                self.same(turn_back(steps, turn(steps, pixel)), pixel)
                self.same(turn(steps, turn_back(steps, pixel)), pixel)

    def test_wrong_arguments(self):
        for call in (turn, turn_back):
            self.check_order(call, [STEPS[-1], (1, 2, 3)], [WRONG_COLORS, WRONG_PIXELS])


class OwnColorsTest(PressTest):
    def test_written_out(self):
        self.same(own_colors(), ((0, (0, 0, -1), 0), (2, (1, 0, 0), 1), (1, (0, 0, -1), 0), (2, (0, 1, 0), 1)))


if __name__ == "__main__":
    unittest.main()
