"""Point 21: blocks, their bit planes and the number of their passes."""

import unittest

from bandpress.blocks import pass_count, planes_of
from bandpress.errors import BadBlock
from tests import planes_coding
from tests.helpers import NOT_BLOCKS, PressTest, faults


class PlanesTest(PressTest):
    def test_written_out(self):
        self.same(planes_of(((5, 0, -3),)), 3)
        self.same(pass_count(((5, 0, -3),)), 7)
        self.same(planes_of(((0,),)), 0)
        self.same(pass_count(((0,),)), 0)
        self.same(planes_of(((0, 0), (0, -1))), 1)
        self.same(pass_count(((0, 0), (0, -1))), 1)
        self.same(planes_of(((0, 2 ** 32 - 1), (0, 1))), 32)
        self.same(planes_of(((-2 ** 32 + 1,),)), 32)
        self.same(pass_count(((-2 ** 32 + 1,),)), 94)

    def test_number_of_digits(self):
        for planes in range(1, 33):
            for size in (2 ** (planes - 1), 2 ** planes - 1):
                for block in (((size,),), ((0, 0), (-size, 0)), ((size // 2, -size, size),)):
                    self.same(planes_of(block), planes)
                    self.same(pass_count(block), 3 * planes - 2)

    def test_against_the_reference(self):
        for block in planes_coding.BLOCKS:
            self.same(planes_of(block), planes_coding.planes_of(block))
            self.same(pass_count(block), planes_coding.count_of(planes_coding.planes_of(block)))

    def test_wrong_arguments(self):
        for call in (planes_of, pass_count):
            self.check_order(call, [((1, 2), (3, 4))], [faults(BadBlock, NOT_BLOCKS)])


if __name__ == "__main__":
    unittest.main()
