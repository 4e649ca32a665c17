"""Kernels, starts and samples that the tests go through. Nothing here changes from run to run."""

import random

SHORT = (((-1,), 1), ((1,), 2))
LONG = (((-9, 1), 4), ((1,), 2))

# Steps of kernels: 1 and 4 steps, 1 and 2 weights, shifts 0 and 8, weights at the limits, and weights of 0.
KERNELS = (
    SHORT,
    LONG,
    (((1,), 0),),
    (((0,), 0),),
    (((0, 3), 2),),
    (((64, -64), 8),),
    (((-64,), 8), ((64,), 0)),
    (((1, -1), 1), ((-3, 2), 3)),
    (((-1,), 0), ((1,), 1), ((5, -2), 4)),
    (((-7,), 3), ((0,), 0), ((0, 1), 1)),
    (((-12, 5), 3), ((7, -3), 2), ((64, 64), 7), ((-64, -64), 8)),
    (((3,), 1), ((-2, 9), 5), ((0, 0), 8), ((1, 0), 0)),
)

STARTS = (-1000, -999, -8, -3, -2, -1, 0, 1, 2, 7, 899, 900)
LENGTHS = (0, 1, 2, 3, 4, 5, 6, 7, 8, 11, 63, 64)
PLACES = ((0, 0), (1, 0), (0, 1), (-3, 5), (-1000, -1000), (-999, 899), (900, 900), (899, -999), (2, -7))


def some_samples(count, seed):
    """A tuple of integers: small ones, a few great ones, and a few without change."""
    source = random.Random(1000 * seed + count)
    most = (3, 255, 10 ** 6, 10 ** 40)[seed % 4]
    return tuple(source.randint(-most, most) for _ in range(count))


def some_rows(height, width, seed):
    """Rows of integers."""
    samples = some_samples(height * width, seed)
    return tuple(samples[width * k:width * (k + 1)] for k in range(height))


def some_ratios(count, seed):
    """A tuple of pairs (numerator, denominator) in lowest terms."""
    source = random.Random(2000 * seed + count + 1)
    result = []
    for _ in range(count):
        below = source.choice((1, 1, 2, 3, 8, 35))
        above = source.randint(-40, 40)
        while any(above % prime == 0 and below % prime == 0 for prime in (2, 3, 5, 7)):
            above += 1
        result.append((above, below))
    return tuple(result)


def some_steps(seed):
    """The steps of a kernel."""
    source = random.Random(3000 + seed)
    return tuple((tuple(source.randint(-64, 64) for _ in range(source.randint(1, 2))), source.randint(0, 8))
                 for _ in range(source.randint(1, 4)))
