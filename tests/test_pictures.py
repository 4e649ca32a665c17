"""Pictures and frames of point 38."""

import unittest

from bandpress.errors import BadPicture
from bandpress.pictures import frame_of
from tests.helpers import PressTest, faults
from tests.pictures import FRAMES, WRONG_PICTURES, some_picture


class FrameOfTest(PressTest):
    def test_written_out(self):
        self.same(frame_of((0, 0, (((5,),),))), (0, 0, 1, 1, 1))
        self.same(frame_of((3, 99, (((1,), (2,)), ((-255,), (255,))))), (3, 99, 2, 1, 2))
        self.same(frame_of((0, 7, (((1, 2, 3),),) * 3)), (0, 7, 1, 3, 3))

    def test_some_pictures(self):
        for frame in FRAMES:
            for seed in range(5):
                self.same(frame_of(some_picture(frame, seed)), frame)

    def test_greatest_pictures(self):
        for sample in (-255, 255):
            component = ((sample,) * 16,) * 16
            for many in (1, 2, 3):
                self.same(frame_of((84, 84, (component,) * many)), (84, 84, 16, 16, many))
        self.same(frame_of((99, 99, (((0,),),))), (99, 99, 1, 1, 1))
        self.same(frame_of((85, 0, (((0,),) * 15,))), (85, 0, 15, 1, 1))

    def test_wrong_pictures(self):
        self.check_order(frame_of, [(0, 0, (((5,),),))], [WRONG_PICTURES])

    def test_one_too_far(self):
        component = ((0,) * 16,) * 16
        for top, left in ((85, 84), (84, 85), (99, 0), (0, 99)):
            self.check_order(frame_of, [(84, 84, (component,))],
                             [faults(BadPicture, [(top, left, (component,) * many) for many in (1, 2, 3)], index=0)])


if __name__ == "__main__":
    unittest.main()
