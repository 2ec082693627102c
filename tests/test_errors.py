"""The classes of refusals."""

import unittest

from houses import NOTHING, HouseCase, mapped
from yesterpost import errors
from yesterpost.almanac import Almanac
from yesterpost.book import Book
from yesterpost.climb import climb
from yesterpost.day import sent
from yesterpost.errors import HouseError, NoPage, NoRow
from yesterpost.home import checked
from yesterpost.joining import beside
from yesterpost.mixes import mix, weights_of
from yesterpost.page import read
from yesterpost.shares import share

NAMES = (
    "NoName", "Twice", "NoSize", "NoWay", "TooGreat", "NoRow", "NoGuess", "NoCount", "NotRising", "NoShare",
    "NoMix", "NotStill", "Clash", "NoPage", "NoPlace", "NoBox", "NoPost", "InUse", "NoMark", "NothingLeft",
)

ROUND = mapped((1, 2, 0))
# One plain call that brings about each refusal.
CALLS = {
    "NoName": lambda: checked([("A", 2, 0)], [], []),
    "Twice": lambda: checked([("a", 2, 0), ("a", 2, 0)], [], []),
    "NoSize": lambda: checked([("a", 0, 0)], [], []),
    "NoWay": lambda: checked([], [("a", 2, "off", 0)], []),
    "TooGreat": lambda: checked([("a", 2, 0)] * 9, [], []),
    "NoRow": lambda: checked([], [], [()]),
    "NoGuess": lambda: sent(ROUND, (3,)),
    "NoCount": lambda: Almanac(ROUND, (0,)).move_to(-1),
    "NotRising": lambda: climb(ROUND),
    "NoShare": lambda: share(1, 0),
    "NoMix": lambda: mix(ROUND, []),
    "NotStill": lambda: weights_of(ROUND, [((0,), (1, 1))]),
    "Clash": lambda: beside(ROUND, ROUND),
    "NoPage": lambda: read("no page"),
    "NoPlace": lambda: Book(NOTHING).cut(0),
    "NoBox": lambda: Book(NOTHING).shut_box("a"),
    "NoPost": lambda: Book(NOTHING).shut_post("a"),
    "InUse": lambda: Book(ROUND).shut_box("hand"),
    "NoMark": lambda: Book(NOTHING).go_to("a"),
    "NothingLeft": lambda: Book(NOTHING).undo(),
}


class TestCalls(HouseCase):
    def test_each_is_of_its_own_class_and_of_no_other(self):
        self.assertEqual(tuple(CALLS), NAMES)
        for name, call in CALLS.items():
            with self.subTest(name):
                self.refused(getattr(errors, name), call)


class TestClasses(unittest.TestCase):
    def test_house_error_stands_straight_under_value_error(self):
        self.assertEqual(HouseError.__bases__, (ValueError,))

    def test_each_stands_straight_under_house_error(self):
        self.assertEqual(len(set(NAMES)), 20)
        for name in NAMES:
            with self.subTest(name):
                self.assertEqual(getattr(errors, name).__bases__, (HouseError,))
                self.assertEqual(getattr(errors, name).__name__, name)

    def test_none_is_of_another_class(self):
        classes = [getattr(errors, name) for name in NAMES]
        for one in classes:
            for other in classes:
                self.assertEqual(issubclass(one, other), one.__name__ == other.__name__)

    def test_there_are_no_other_classes(self):
        told = sorted(name for name, thing in vars(errors).items() if isinstance(thing, type))
        self.assertEqual(told, sorted(NAMES + ("HouseError",)))

    def test_place_of_a_row_and_line_of_a_page(self):
        self.assertEqual(NoRow(0).at, 0)
        self.assertEqual(NoRow(39).at, 39)
        self.assertEqual(NoPage(1).at, 1)
        self.assertEqual(NoPage(54).at, 54)


if __name__ == "__main__":
    unittest.main()
