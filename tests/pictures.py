"""Pictures, frames and options that the tests of the codec go through. Nothing here changes from run to run."""

import itertools
import random

from bandpress.errors import BadPicture
from bandpress.kernels import short_kernel
from bandpress.options import Options
from tests.codec import DEFAULTS
from tests.helpers import NOT_INTEGERS

# One sample, 16 by 16, tops and lefts 0 and 99, pictures that reach row 99, 1 to 3 components, odd positions.
FRAMES = ((0, 0, 1, 1, 1), (99, 99, 1, 1, 3), (0, 0, 16, 16, 1), (84, 84, 16, 16, 3), (3, 5, 7, 6, 2), (1, 1, 1, 9, 1),
          (7, 2, 11, 1, 3), (15, 31, 2, 2, 2), (98, 0, 2, 13, 1), (5, 99, 5, 1, 2), (21, 13, 10, 12, 3))

GIVEN = (
    {}, {"levels": 0}, {"levels": 3}, {"kernel": "long"}, {"side": 8}, {"cuts": (94,)}, {"cuts": (94, 0)},
    {"cuts": (9, 9, 3, 3)}, {"cuts": (20, 12, 6, 0)}, {"cuts": (94, 94)}, {"cuts": (0, 0, 0)}, {"order": "lrct"},
    {"tile_height": 1}, {"tile_width": 1}, {"tile_height": 5, "tile_width": 7, "levels": 1},
    {"tile_height": 4, "tile_width": 8, "levels": 3, "kernel": "long"}, {"colors": True},
    {"colors": True, "kernel": "long", "levels": 3, "side": 8, "cuts": (15, 9, 4, 0), "order": "crtl"},
    {"tile_height": 3, "tile_width": 3, "levels": 2, "cuts": (10, 2), "order": "rlct"},
    {"tile_height": 2, "tile_width": 2, "levels": 1, "cuts": (12, 0), "order": "clrt"},
    {"shift": 16, "cuts": (9, 0)}, {"shift": 1, "colors": True, "levels": 1},
    {"region": (0, 0, 100, 100), "shift": 16}, {"region": (0, 0, 100, 100), "shift": 0},
    {"region": (99, 99, 100, 100), "shift": 11}, {"region": (5, 6, 9, 40), "shift": 11, "cuts": (30, 14, 0)},
    {"region": (0, 0, 8, 100), "shift": 13, "kernel": "long", "levels": 3, "tile_height": 8, "colors": True},
    {"region": (4, 7, 5, 8), "shift": 12, "levels": 0}, {"region": (90, 90, 95, 93), "shift": 12, "tile_width": 6},
)


def some_picture(frame, seed):
    """A picture: of any samples, of small ones, of greatest ones, of zeros, or smooth with a few zeros and edges."""
    top, left, height, width, many = frame
    source = random.Random(5000 + seed)
    kind = seed % 5

    def sample(i, j):
        if kind == 0:
            return source.randint(-255, 255)
        if kind == 1:
            return source.choice((0, 0, 0, 1, -1, 3))
        if kind == 2:
            return source.choice((-255, 255))
        if kind == 3:
            return 9 * i - 14 * j if (i // 3 + j // 4) % 3 else 0
        return source.randint(-40, 40) if i + j > 12 else 0

    return top, left, tuple(tuple(tuple(sample(i, j) for j in range(width)) for i in range(height))
                            for _ in range(many))


def zeros(frame):
    """A picture of zeros."""
    top, left, height, width, many = frame
    return top, left, (((0,) * width,) * height,) * many


def cases(every=1, start=0, frames=FRAMES, given=GIVEN):
    """Tuples (picture, frame, Options, dict of options): some of all combinations of frames and options."""
    for number, (chosen, frame) in enumerate(itertools.product(given, frames)):
        if number % every == start % every:
            yield some_picture(frame, number + number // 5), frame, Options(**chosen), {**DEFAULTS, **chosen}


def small_cases(every=1, start=0):
    """The same with pictures so small that they have few blocks."""
    frames = ((0, 0, 1, 1, 1), (3, 5, 3, 4, 1), (7, 2, 5, 1, 3), (98, 98, 2, 2, 2), (6, 11, 6, 5, 1), (1, 1, 7, 8, 1))
    return cases(every, start, frames)


NOT_OPTIONS = (None, True, 0, "", "tlrc", (), [], {}, dict(DEFAULTS), tuple(DEFAULTS.values()), short_kernel())
NOT_CORNERS = (*NOT_INTEGERS, (0,), -1, 100, 10 ** 30)
NOT_LENGTHS = (*NOT_INTEGERS, (1,), -1, 0, 17, 10 ** 30)
NOT_FRAMES = (None, True, 0, "", "12345", (), (0, 0, 1, 1), (0, 0, 1, 1, 1, 1), [0, 0, 1, 1, 1], {}, {0: 0},
              *((top, 0, 1, 1, 1) for top in NOT_CORNERS), *((0, left, 1, 1, 1) for left in NOT_CORNERS),
              *((0, 0, height, 1, 1) for height in NOT_LENGTHS), *((0, 0, 1, width, 1) for width in NOT_LENGTHS),
              *((0, 0, 1, 1, many) for many in (*NOT_INTEGERS, (1,), -1, 0, 4, 10 ** 30)),
              (99, 0, 2, 1, 1), (0, 99, 1, 2, 1), (84, 0, 17, 1, 1), (85, 0, 16, 1, 1), (0, 85, 1, 16, 1))
NOT_SAMPLES = (*NOT_INTEGERS, (1,), -256, 256, 10 ** 30)
NOT_COMPONENTS = (None, True, 5, "", "ab", (), ((),), ((), ()), [], [(1,)], {}, (1,), (None,), ("",), ([1],), ({},),
                  ((1,), ()), ((), (1,)), ((1, 2), (3,)), ((1,), [2]), ((1,), 2), ((0,),) * 17, ((0,) * 17,),
                  *(((value,),) for value in NOT_SAMPLES), *(((1, 2), (3, value)) for value in NOT_SAMPLES))
ONE = ((5,),)
WRONG_PICTURES = [
    *((value, BadPicture, {"index": None}) for value in
      (None, True, 0, "", "abc", (), (0, 0), (0, 0, (ONE,), 0), [0, 0, (ONE,)], {}, {0: 0, 1: 0, 2: (ONE,)},
       *((top, 0, (ONE,)) for top in NOT_CORNERS), *((0, left, (ONE,)) for left in NOT_CORNERS),
       *((0, 0, components) for components in (None, True, 0, "", "a", (), [], [ONE], {}, {0: ONE}, (ONE,) * 4)),
       (100, 0, (None,)), (0, None, (None, ONE)))),
    *(((0, 0, (component,)), BadPicture, {"index": 0}) for component in NOT_COMPONENTS),
    *(((0, 0, (ONE, component)), BadPicture, {"index": 1}) for component in NOT_COMPONENTS),
    *(((9, 9, (ONE, ONE, component)), BadPicture, {"index": 2}) for component in NOT_COMPONENTS),
    *(((0, 0, (ONE, component, None)), BadPicture, {"index": 1}) for component in
      (((1, 2),), ((1,), (2,)), ((1, 2), (3, 4)))),
    ((0, 0, (((1, 2), (3, 4)), ((1, 2),))), BadPicture, {"index": 1}),
    ((0, 0, (((1, 2), (3, 4)), ((1, 2), (3, 4)), ((1,), (3,)))), BadPicture, {"index": 2}),
    ((99, 0, (((1,), (2,)),)), BadPicture, {"index": 0}), ((0, 99, (((1, 2),),)), BadPicture, {"index": 0}),
    ((85, 0, (((0,),) * 16, ((0,),) * 15)), BadPicture, {"index": 0}),
    ((85, 0, (((0,),) * 15, ((0,),) * 16)), BadPicture, {"index": 1}),
    ((0, 85, (((0,) * 16,),)), BadPicture, {"index": 0}),
    ((99, 99, (ONE, ((1,), (2,)), None)), BadPicture, {"index": 1}),
]
# 16 by 16 tiles of one sample, 3 components, 4 resolutions and 2 layers are 6144 packets.
MANY_FRAME = (0, 0, 16, 16, 3)
MANY_OPTIONS = Options(levels=3, tile_height=1, tile_width=1, cuts=(9, 0))
