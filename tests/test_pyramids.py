"""Point 9: pyramids, decomposed and composed."""

import unittest

from bandpress.errors import BadBands, BadLevels, BadPlane, BadPyramid, NotKernel
from bandpress.kernels import Kernel, short_kernel
from bandpress.pyramids import compose, decompose
from tests import reference
from tests.helpers import NOT_FOUR_LEVELS, NOT_KERNELS, NOT_PLANES, PressTest, faults
from tests.samples import KERNELS, PLACES, some_rows

ONE = (0, 0, ((5,),))
NO_ROWS = (0, 0, ())
SIZES = ((0, 0), (2, 0), (1, 1), (2, 2), (3, 5), (8, 7), (16, 16))


def planes():
    """Planes at many places, each with the steps of a kernel."""
    for number, steps in enumerate(KERNELS):
        for place, (top, left) in enumerate(PLACES):
            height, width = SIZES[(number + place) % len(SIZES)]
            yield steps, (top, left, some_rows(height, width, number + place))


class DecomposeTest(PressTest):
    def test_written_out(self):
        kernel = Kernel((((-1,), 0),))
        plane = (0, 0, ((1, 2, 5, 9),))
        triple = ((0, 0, ((-4, -1),)), (0, 0, ()), (0, 0, ()))
        self.same(decompose(kernel, plane, 0), (plane,))
        self.same(decompose(kernel, plane, 1), ((0, 0, ((1, 5),)), triple))
        last = ((0, 0, ((3,),)), (0, 0, ()), (0, 0, ()))
        self.same(decompose(kernel, plane, 2), ((0, 0, ((1,),)), last, triple))

    def test_last_level_comes_first(self):
        for steps, plane in planes():
            low, triples = plane, []
            for levels in range(5):
                self.same(decompose(Kernel(steps), plane, levels), (low, *triples))
                low, *triple = reference.split(steps, *low)
                triples.insert(0, tuple(triple))

    def test_wrong_arguments(self):
        self.check_order(decompose, [short_kernel(), ONE, 2],
                         [faults(NotKernel, NOT_KERNELS), faults(BadPlane, NOT_PLANES),
                          faults(BadLevels, NOT_FOUR_LEVELS)])


class ComposeTest(PressTest):
    def test_written_out(self):
        kernel = Kernel((((-1,), 0),))
        last = ((0, 0, ((3,),)), (0, 0, ()), (0, 0, ()))
        triple = ((0, 0, ((-4, -1),)), (0, 0, ()), (0, 0, ()))
        pyramid = ((0, 0, ((1,),)), last, triple)
        self.same(compose(kernel, pyramid), (0, 0, ((1, 2, 5, 9),)))
        self.same(compose(kernel, pyramid[:2]), (0, 0, ((1, 5),)))
        self.same(compose(kernel, pyramid[:1]), (0, 0, ((1,),)))

    def test_undoes_decompose(self):
        for steps, plane in planes():
            for levels in range(5):
                self.same(compose(Kernel(steps), decompose(Kernel(steps), plane, levels)), plane)

    def test_first_items_are_a_pyramid_of_a_smaller_plane(self):
        for steps, plane in planes():
            pyramid = decompose(Kernel(steps), plane, 4)
            for count in range(5):
                self.same(compose(Kernel(steps), pyramid[:1 + count]), decompose(Kernel(steps), plane, 4 - count)[0])

    def test_not_a_pyramid(self):
        triple = (NO_ROWS,) * 3
        forms = [None, True, 0, "", "ab", (), [], {}, [NO_ROWS], [NO_ROWS, triple], {0: NO_ROWS}, triple, NO_ROWS,
                 (triple, NO_ROWS), (NO_ROWS, *(triple,) * 5), (NO_ROWS, triple, None), (NO_ROWS, True), (NO_ROWS, 0),
                 (NO_ROWS, "abc"), (NO_ROWS, ()), (NO_ROWS, (NO_ROWS,) * 2), (NO_ROWS, (NO_ROWS,) * 4),
                 (NO_ROWS, [NO_ROWS] * 3), (NO_ROWS, {}), (NO_ROWS, (NO_ROWS,)), (NO_ROWS, triple, triple, [])]
        for value in NOT_PLANES:
            forms += [(value,), (value, triple), (NO_ROWS, (value, NO_ROWS, NO_ROWS)),
                      (NO_ROWS, triple, (NO_ROWS, value, NO_ROWS)), (NO_ROWS, (NO_ROWS, NO_ROWS, value))]
        self.check_order(compose, [short_kernel(), (NO_ROWS, triple)],
                         [faults(NotKernel, NOT_KERNELS), faults(BadPyramid, forms)])

    def test_bands_that_do_not_fit(self):
        kernel = short_kernel()
        triple = (NO_ROWS,) * 3
        self.same(compose(kernel, (NO_ROWS, triple, triple, triple, triple)), NO_ROWS)
        self.fails(BadBands, compose, kernel, (ONE, triple))
        self.fails(BadBands, compose, kernel, (NO_ROWS, (ONE, NO_ROWS, NO_ROWS)))
        self.fails(BadBands, compose, kernel, (NO_ROWS, triple, (NO_ROWS, NO_ROWS, ONE)))
        self.fails(BadBands, compose, kernel, (NO_ROWS, triple, triple, triple, ((1, 0, ()),) * 3))
        self.fails(BadBands, compose, kernel, ((450, 0, ()), ((450, 0, ()),) * 3, ((900, 0, ()),) * 3))

    def test_result_that_would_be_too_great(self):
        kernel = short_kernel()
        zeros = {side: (0, 0, ((0,) * side,) * side) for side in (1, 2, 4, 8, 16)}
        pyramid = (zeros[1], *((zeros[side],) * 3 for side in (1, 2, 4, 8)))
        self.same(compose(kernel, pyramid), zeros[16])
        self.same(compose(kernel, pyramid[:4]), zeros[8])
        self.fails(BadBands, compose, kernel, (zeros[16], (zeros[16],) * 3))

    def test_form_of_the_whole_comes_before_the_bands(self):
        triple = (NO_ROWS,) * 3
        self.fails(BadPyramid, compose, short_kernel(), (ONE, triple, None))
        self.fails(NotKernel, compose, None, (ONE, triple))


if __name__ == "__main__":
    unittest.main()
