"""The classes of refusals."""

import unittest

from yesterpost import errors
from yesterpost.errors import HouseError, NoPage, NoRow

NAMES = (
    "NoName", "Twice", "NoSize", "NoWay", "TooGreat", "NoRow", "NoGuess", "NoCount", "NotRising", "NoShare",
    "NoMix", "NotStill", "Clash", "NoPage", "NoPlace", "NoBox", "NoPost", "InUse", "NoMark", "NothingLeft",
)


class TestClasses(unittest.TestCase):
    def test_house_error_stands_straight_under_value_error(self):
        self.assertEqual(HouseError.__bases__, (ValueError,))

    def test_each_stands_straight_under_house_error(self):
        self.assertEqual(len(set(NAMES)), 20)
        for name in NAMES:
            with self.subTest(name):
                self.assertEqual(getattr(errors, name).__bases__, (HouseError,))
                self.assertEqual(getattr(errors, name).__name__, name)

    def test_none_is_of_another_class(self):
        classes = [getattr(errors, name) for name in NAMES]
        for one in classes:
            for other in classes:
                self.assertEqual(issubclass(one, other), one.__name__ == other.__name__)

    def test_there_are_no_other_classes(self):
        told = sorted(name for name, thing in vars(errors).items() if isinstance(thing, type))
        self.assertEqual(told, sorted(NAMES + ("HouseError",)))

    def test_place_of_a_row_and_line_of_a_page(self):
        self.assertEqual(NoRow(0).at, 0)
        self.assertEqual(NoRow(39).at, 39)
        self.assertEqual(NoPage(1).at, 1)
        self.assertEqual(NoPage(54).at, 54)


if __name__ == "__main__":
    unittest.main()
