"""Point 4: kernels."""

import unittest

from bandpress.errors import BadKernel
from bandpress.kernels import Kernel, long_kernel, short_kernel
from tests.helpers import PressTest
from tests.samples import KERNELS, LONG, SHORT

STEP = ((1,), 2)
NOT_STEPS = (
    None, True, 0, "", "12", (), ((1,),), ((1,), 2, 3), [(1,), 2], {}, {0: (1,), 1: 2},
    ((), 2), ((1, 2, 3), 2), ([1], 2), (1, 2), ("1", 2), (None, 2), ({}, 2), ({1: 1}, 2), (True, 2),
    ((True,), 2), ((1, False), 2), ((None,), 2), (("1",), 2), (((1,),), 2), (([1],), 2), ((1, ()), 2),
    ((-65,), 2), ((65,), 2), ((1, -65), 2), ((1, 65), 2), ((10 ** 30,), 2),
    ((1,), -1), ((1,), 9), ((1,), True), ((1,), False), ((1,), None), ((1,), "2"), ((1,), (2,)), ((1,), [2]),
    ((1,), 10 ** 30), (2, (1,)),
)


class KernelTest(PressTest):
    def test_steps_are_kept(self):
        for steps in KERNELS:
            self.same(Kernel(steps).steps, steps)

    def test_limits(self):
        for steps in ((((-64,), 0),), (((64, -64), 8),), (((0, 0), 0),), (STEP,) * 4):
            self.same(Kernel(steps).steps, steps)

    def test_equal_if_the_steps_are_equal(self):
        for number, steps in enumerate(KERNELS):
            for other_number, other in enumerate(KERNELS):
                self.assertIs(Kernel(steps) == Kernel(other), number == other_number)
                self.assertIs(Kernel(steps) != Kernel(other), number != other_number)

    def test_not_equal_to_other_values(self):
        for value in (None, True, 0, SHORT, "short", [], {}):
            self.assertFalse(Kernel(SHORT) == value)
            self.assertTrue(Kernel(SHORT) != value)

    def test_equal_in_all_steps_only(self):
        self.assertFalse(Kernel((STEP,)) == Kernel((STEP, STEP)))
        self.assertFalse(Kernel((((1,), 2),)) == Kernel((((1,), 3),)))
        self.assertFalse(Kernel((((1,), 2),)) == Kernel((((1, 0), 2),)))
        self.assertFalse(Kernel((((1,), 2),)) == Kernel((((2,), 2),)))
        self.assertFalse(Kernel((STEP, ((3,), 1))) == Kernel((((3,), 1), STEP)))

    def test_own_kernels(self):
        self.same(short_kernel().steps, (((-1,), 1), ((1,), 2)))
        self.same(long_kernel().steps, (((-9, 1), 4), ((1,), 2)))
        self.assertTrue(short_kernel() == Kernel(SHORT))
        self.assertTrue(long_kernel() == Kernel(LONG))
        self.assertFalse(short_kernel() == long_kernel())

    def test_not_a_tuple_of_steps(self):
        for value in (None, True, 0, 7, "", "ab", (), [], [STEP], {}, {0: STEP}, (STEP,) * 5, (None,) * 5):
            self.fails(BadKernel, Kernel, value, index=None)

    def test_index_of_the_first_wrong_step(self):
        for value in NOT_STEPS:
            self.fails(BadKernel, Kernel, (value,), index=0)
            self.fails(BadKernel, Kernel, (STEP, value), index=1)
            self.fails(BadKernel, Kernel, (STEP, STEP, value, STEP), index=2)
            self.fails(BadKernel, Kernel, (STEP, STEP, STEP, value), index=3)
            self.fails(BadKernel, Kernel, (STEP, value, value, None), index=1)
        self.fails(BadKernel, Kernel, ((1,), 2), index=0)


if __name__ == "__main__":
    unittest.main()
