"""bandpress.errors: all classes and their fields."""

import unittest

from bandpress import errors

PLAIN = """
    NotRatio BadSpan BadLevels NotKernel BadSignal BadStage BadBands BadPlane BadPyramid
    BadStep BadPosition BadNumber BadShare NotTable BadBit BadContext
    BadBlock BadPasses BadRanges BadShape BadPlanes BadTree BadLeaf BadThreshold
    BadFrame NotOptions NotApart BadTiles BadPixel NothingToUndo BadChoice BadSlope BadSize
""".split()

WITH_INDEX = """
    BadKernel BadBounds BadValues BadCells BadCenters BadTable BadPairs BadBytes BadContexts BadCuts BadSegments
    BadQueries BadBits BadPicture BadPackets BadKeys BadColors BadPositions BadSlopes
""".split()


class ErrorsTest(unittest.TestCase):
    def test_base_class_is_a_value_error(self):
        self.assertEqual(errors.PressError.__bases__, (ValueError,))

    def test_all_others_are_its_direct_subclasses(self):
        for name in [*PLAIN, *WITH_INDEX, "TooMany", "BadOptions", "BadStream", "BadPoints"]:
            self.assertEqual(getattr(errors, name).__bases__, (errors.PressError,), msg=name)
            self.assertEqual(getattr(errors, name).__name__, name)

    def test_fields_are_set_when_an_error_is_created(self):
        for name in WITH_INDEX:
            self.assertEqual(getattr(errors, name)(3).index, 3, msg=name)
            self.assertIsNone(getattr(errors, name)(None).index, msg=name)
        self.assertEqual(errors.TooMany(4000).most, 4000)
        self.assertEqual(errors.BadOptions("region").name, "region")
        self.assertEqual(errors.BadStream(7).position, 7)

    def test_points_have_two_fields(self):
        error = errors.BadPoints(2, 5)
        self.assertEqual((error.block, error.index), (2, 5))
        error = errors.BadPoints(1, None)
        self.assertEqual((error.block, error.index), (1, None))

    def test_each_is_caught_as_a_press_error(self):
        for name in PLAIN:
            with self.assertRaises(errors.PressError):
                raise getattr(errors, name)("why")


if __name__ == "__main__":
    unittest.main()
