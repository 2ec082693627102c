"""The book: points 25, 26 and 27."""

import random
import unittest

from houses import COUNTER, NOTHING, SHUT, SOME, SOME_RISING, HouseCase, guesses_of, mapped, no_guesses
from yesterpost.book import Book
from yesterpost.climb import climb, rises
from yesterpost.day import sent
from yesterpost.errors import (
    HouseError, InUse, NoBox, NoGuess, NoMark, NoName, NoPlace, NoPost, NoRow, NoSize, NothingLeft, NotRising, NoWay,
    TooGreat, Twice,
)
from yesterpost.home import checked
from yesterpost.settle import nearest, settlings
from yesterpost.web import rings

BOXES = [("a", 2, 1), ("b", 3, 0), ("c", 2, 0)]
POSTS = [("p", 2, "back", 0), ("b", 3, "on", 1), ("q", 2, "held", 1)]
ROWS = [("take", "a", "p"), ("turn", "a", (1, 0)), ("send", "p", "a")]
HOUSE = checked(BOXES, POSTS, ROWS)
FULL_BOXES = checked([(name, 2, 0) for name in "abcdefgh"], [], [])
FULL_POSTS = checked([("a", 2, 0)], [(name, 1, "on", 0) for name in "abcdef"], [])
FULL_ROWS = checked([("a", 2, 0)], [("p", 2, "back", 0)], [("set", "a", 0)] * 40)
FAR = 10 ** 60
# Deeds of each kind that HOUSE takes.
DEEDS = (
    ("put", 0, ("set", "b", 2)), ("put", 3, ("copy", "b", "a")), ("cut", 1), ("change", 2, ("send", "p", "b")),
    ("open_box", "d", 9, 8), ("open_post", "r", 4, "back", 3), ("shut_box", "c"), ("shut_post", "q"),
    ("set_way", "b", "back", 2),
)
# Calls that HOUSE refuses, and how.
WRONG = (
    (NoPlace, "put", 4, ("set", "a", 0)), (NoPlace, "cut", 3), (NoPlace, "change", -1, ("set", "a", 0)),
    (NoRow, "put", 1, ("set", "a", 2)), (NoRow, "change", 1, ("set", "p", 0)), (Twice, "open_box", "a", 2, 0),
    (NoSize, "open_box", "d", 0, 0), (NoName, "open_post", "R", 4, "back", 0), (NoWay, "open_post", "r", 2, "x", 0),
    (NoBox, "shut_box", "d"), (NoPost, "shut_post", "a"), (InUse, "shut_box", "a"), (InUse, "shut_post", "p"),
    (NoPost, "set_way", "z", "on", 0), (NoWay, "set_way", "p", "off", 0),
    (NoSize, "set_way", "p", "on", 2), (NoMark, "go_to", "never"),
)


def done(book, deed):
    """Do a deed told as (name, *what is handed in)."""
    return getattr(book, deed[0])(*deed[1:])


def told_by(book):
    """All that a book tells without being asked to change."""
    return (book.now(), book.depth())


class BookCase(HouseCase):
    def made(self, house, deed, wanted):
        """That the deed makes this house, counts as one, and gives back nothing."""
        book = Book(house)
        self.assertIsNone(done(book, deed))
        self.assertEqual(book.now(), wanted)
        self.assertEqual([type(book.now()), *map(type, book.now())], [tuple] * 4)
        self.assertEqual(book.now(), checked(*[list(part) for part in book.now()]))
        self.assertEqual(book.depth(), (1, 0))
        book.undo()
        self.assertEqual(told_by(book), (house, (0, 1)))
        book.redo()
        self.assertEqual(told_by(book), (wanted, (1, 0)))

    def not_made(self, kind, house, *deed):
        """That the deed is refused with this class and changes nothing."""
        book = Book(house)
        book.mark("kept")
        book.go_to("kept")
        book.go_to("kept")
        book.undo()
        self.refused(kind, done, book, deed)
        self.assertEqual(told_by(book), (house, (1, 1)))
        book.redo()
        self.assertEqual(told_by(book), (house, (2, 0)))

    def no_row(self, at, house, *deed):
        """That the deed is refused with NoRow at this place."""
        self.not_made(NoRow, house, *deed)
        with self.assertRaises(NoRow) as caught:
            done(Book(house), deed)
        self.assertEqual(caught.exception.at, at)


class TestAtFirst(BookCase):
    def test_the_house_and_nothing_done(self):
        for house in (NOTHING, HOUSE, COUNTER):
            self.assertEqual(told_by(Book(house)), (house, (0, 0)))

    def test_kinds(self):
        self.assertEqual([type(Book(HOUSE).depth()), *map(type, Book(HOUSE).depth())], [tuple, int, int])


class TestRows(BookCase):
    def test_put_at_each_place(self):
        row = ("sum", "b", "a", "b")
        for at in range(4):
            rows = list(ROWS)
            rows.insert(at, row)
            self.made(HOUSE, ("put", at, row), checked(BOXES, POSTS, rows))

    def test_put_each_word(self):
        for row in (
            ("set", "a", 1), ("copy", "a", "b"), ("least", "a", "b", "c"), ("most", "a", "b", "c"),
            ("sum", "a", "b", "c"), ("pick", "a", "b", "c", "a"), ("turn", "b", (0, 2, 1)), ("send", "b", "b"),
            ("take", "b", "b"),
        ):
            self.made(HOUSE, ("put", 3, row), checked(BOXES, POSTS, ROWS + [row]))

    def test_put_in_a_house_without_rows(self):
        house = checked(BOXES, [], [])
        self.made(house, ("put", 0, ("set", "a", 1)), checked(BOXES, [], [("set", "a", 1)]))

    def test_cut_at_each_place(self):
        for at in range(3):
            self.made(HOUSE, ("cut", at), checked(BOXES, POSTS, ROWS[:at] + ROWS[at + 1:]))
        self.made(FULL_ROWS, ("cut", 39), (FULL_ROWS[0], FULL_ROWS[1], FULL_ROWS[2][1:]))

    def test_change_at_each_place(self):
        row = ("sum", "b", "a", "b")
        for at in range(3):
            self.made(HOUSE, ("change", at, row), checked(BOXES, POSTS, ROWS[:at] + [row] + ROWS[at + 1:]))
        for at in (0, 20, 39):
            rows = FULL_ROWS[2][:at] + (("set", "a", 1),) + FULL_ROWS[2][at + 1:]
            self.made(FULL_ROWS, ("change", at, ("set", "a", 1)), (FULL_ROWS[0], FULL_ROWS[1], rows))

    def test_change_to_the_same(self):
        self.made(HOUSE, ("change", 1, ROWS[1]), HOUSE)

    def test_no_such_place(self):
        good, bad = ("set", "a", 0), ("set", "a", 9)
        for row in (good, bad, ()):
            for at in (-1, -2, -3, -4, 4, 5, FAR, -FAR, 10 ** 6000):
                self.not_made(NoPlace, HOUSE, "put", at, row)
            for at in (-1, -2, -3, -4, 3, 4, 5, FAR, -FAR, 10 ** 6000):
                self.not_made(NoPlace, HOUSE, "change", at, row)
                self.not_made(NoPlace, HOUSE, "cut", at)
            for at in (-1, 41, FAR):
                self.not_made(NoPlace, FULL_ROWS, "put", at, row)
            for at in (-1, 0, 1):
                self.not_made(NoPlace, NOTHING, "change", at, row)
                self.not_made(NoPlace, NOTHING, "cut", at)
            for at in (-1, 1):
                self.not_made(NoPlace, NOTHING, "put", at, row)

    def test_no_good_row(self):
        for row in (
            (), ("set",), ("set", "a"), ("set", "a", 2), ("set", "z", 0), ("set", "a", -1), ("copy", "a", "q"),
            ("turn", "a", (0, 1, 0)), ("turn", "b", (0, 1, 3)), ("send", "a", "p"), ("send", "c", "a"),
            ("take", "p", "a"), ("none", "a", "b"), (1, 2), ("set", "a", 10 ** 6000), ("pick", "a", "b", "c"),
            ("", "", ""),
        ):
            for at in range(4):
                self.no_row(at, HOUSE, "put", at, row)
            for at in range(3):
                self.no_row(at, HOUSE, "change", at, row)
        self.no_row(39, FULL_ROWS, "change", 39, ("set", "a", 2))
        self.no_row(0, NOTHING, "put", 0, ("set", "a", 0))

    def test_too_many_rows(self):
        for at in (0, 20, 40):
            self.not_made(TooGreat, FULL_ROWS, "put", at, ("set", "a", 1))
            self.not_made(TooGreat, FULL_ROWS, "put", at, ("set", "z", 1))


class TestBoxesAndPosts(BookCase):
    def test_open_box(self):
        for box in (("d", 1, 0), ("abcdefgh", 9, 8), ("p", 2, 1), ("set", 5, 4)):
            self.made(HOUSE, ("open_box", *box), checked(BOXES + [box], POSTS, ROWS))
        self.made(NOTHING, ("open_box", "a", 2, 1), ((("a", 2, 1),), (), ()))

    def test_open_box_refused(self):
        for name in ("", "A", "a b", "abcdefghi", "a\n", "~"):
            self.not_made(NoName, HOUSE, "open_box", name, 0, 0)
        for name in "abc":
            self.not_made(Twice, HOUSE, "open_box", name, 0, 9)
        for size, start in ((0, 0), (10, 0), (-1, 0), (2, 2), (2, -1), (9, 9), (FAR, 0), (2, FAR), (10 ** 6000, -1)):
            self.not_made(NoSize, HOUSE, "open_box", "d", size, start)
        self.not_made(TooGreat, FULL_BOXES, "open_box", "i", 2, 0)
        self.not_made(TooGreat, FULL_BOXES, "open_box", "A", 2, 0)
        self.not_made(TooGreat, FULL_BOXES, "open_box", "a", 0, 0)

    def test_open_post(self):
        for post in (("r", 1, "on", 0), ("abcdefgh", 9, "held", 8), ("a", 2, "back", 1), ("take", 5, "back", 4)):
            self.made(HOUSE, ("open_post", *post), checked(BOXES, POSTS + [post], ROWS))
        self.made(NOTHING, ("open_post", "a", 2, "back", 1), ((), (("a", 2, "back", 1),), ()))

    def test_open_post_refused(self):
        for name in ("", "A", "a b", "abcdefghi", "a\n", "~"):
            self.not_made(NoName, HOUSE, "open_post", name, 0, "x", 0)
        for name in "pbq":
            self.not_made(Twice, HOUSE, "open_post", name, 0, "x", 9)
        for size in (0, 10, -1, FAR, 10 ** 6000):
            self.not_made(NoSize, HOUSE, "open_post", "r", size, "x", 0)
        for way in ("", "On", "backk", "ba", "on\n"):
            self.not_made(NoWay, HOUSE, "open_post", "r", 2, way, 9)
        for letter in (-1, 2, FAR, -10 ** 6000):
            self.not_made(NoSize, HOUSE, "open_post", "r", 2, "on", letter)
        self.not_made(TooGreat, FULL_POSTS, "open_post", "A", 1, "on", 0)
        self.not_made(TooGreat, FULL_POSTS, "open_post", "g", 1, "on", 0)
        house = checked([], [("p", 8, "on", 0), ("q", 8, "held", 0)], [])
        self.made(house, ("open_post", "r", 4, "on", 0), checked([], list(house[1]) + [("r", 4, "on", 0)], []))
        self.not_made(TooGreat, house, "open_post", "r", 5, "on", 0)

    def test_shut_box(self):
        self.made(HOUSE, ("shut_box", "b"), checked([BOXES[0], BOXES[2]], POSTS, ROWS))
        self.made(HOUSE, ("shut_box", "c"), checked(BOXES[:2], POSTS, ROWS))
        # A row tells the post "b" and not the box "b".
        rows = ROWS + [("send", "b", "a"), ("take", "c", "b")]
        self.made(checked(BOXES, POSTS, rows), ("shut_box", "b"), checked([BOXES[0], BOXES[2]], POSTS, rows))
        self.made(FULL_BOXES, ("shut_box", "a"), (FULL_BOXES[0][1:], (), ()))

    def test_shut_box_refused(self):
        for name in ("", "d", "A", "p", "q", "ab", "a\n", "x" * 1000):
            self.not_made(NoBox, HOUSE, "shut_box", name)
            self.not_made(NoBox, NOTHING, "shut_box", name)
        self.not_made(InUse, HOUSE, "shut_box", "a")
        for row in (
            ("set", "b", 0), ("copy", "b", "a"), ("copy", "a", "b"), ("least", "a", "b", "a"), ("most", "a", "a", "b"),
            ("sum", "b", "a", "a"), ("pick", "a", "b", "a", "a"), ("pick", "a", "a", "b", "a"),
            ("pick", "a", "a", "a", "b"), ("turn", "b", (0, 1, 2)), ("send", "p", "b"), ("take", "b", "p"),
            ("send", "b", "b"),
        ):
            self.not_made(InUse, checked(BOXES, POSTS, [row] + ROWS), "shut_box", "b")
            self.not_made(InUse, checked(BOXES, POSTS, ROWS + [row]), "shut_box", "b")

    def test_shut_post(self):
        self.made(HOUSE, ("shut_post", "b"), checked(BOXES, [POSTS[0], POSTS[2]], ROWS))
        self.made(HOUSE, ("shut_post", "q"), checked(BOXES, POSTS[:2], ROWS))
        # A row tells the box "b" and not the post "b".
        rows = ROWS + [("sum", "b", "b", "b"), ("send", "q", "b"), ("take", "b", "q")]
        self.made(checked(BOXES, POSTS, rows), ("shut_post", "b"), checked(BOXES, [POSTS[0], POSTS[2]], rows))

    def test_shut_post_refused(self):
        for name in ("", "z", "P", "a", "c", "pb", "p\n", "x" * 1000):
            self.not_made(NoPost, HOUSE, "shut_post", name)
            self.not_made(NoPost, NOTHING, "shut_post", name)
        self.not_made(InUse, HOUSE, "shut_post", "p")
        for row in (("send", "b", "a"), ("take", "a", "b"), ("take", "b", "b")):
            self.not_made(InUse, checked(BOXES, POSTS, [row] + ROWS), "shut_post", "b")
            self.not_made(InUse, checked(BOXES, POSTS, ROWS + [row]), "shut_post", "b")

    def test_set_way(self):
        for at, (name, size, old, letter) in enumerate(POSTS):
            for way in ("on", "back", "held"):
                for new in range(size):
                    posts = POSTS[:at] + [(name, size, way, new)] + POSTS[at + 1:]
                    self.made(HOUSE, ("set_way", name, way, new), checked(BOXES, posts, ROWS))

    def test_set_way_refused(self):
        for name in ("", "z", "P", "a", "c", "p\n"):
            self.not_made(NoPost, HOUSE, "set_way", name, "x", 99)
            self.not_made(NoPost, HOUSE, "set_way", name, "on", 0)
        for way in ("", "On", "backk", "ba", "on\n", "p"):
            self.not_made(NoWay, HOUSE, "set_way", "p", way, 99)
            self.not_made(NoWay, HOUSE, "set_way", "p", way, 0)
        for name, size, way, letter in POSTS:
            for wrong in (-1, size, size + 1, FAR, -FAR, 10 ** 6000):
                self.not_made(NoSize, HOUSE, "set_way", name, "on", wrong)


class TestUndoAndRedo(BookCase):
    def test_nothing_left(self):
        book = Book(HOUSE)
        self.refused(NothingLeft, book.undo)
        self.refused(NothingLeft, book.redo)
        self.assertEqual(told_by(book), (HOUSE, (0, 0)))
        book.cut(0)
        self.refused(NothingLeft, book.redo)
        self.assertEqual(book.depth(), (1, 0))
        book.undo()
        self.refused(NothingLeft, book.undo)
        self.assertEqual(told_by(book), (HOUSE, (0, 1)))

    def test_there_and_back(self):
        book = Book(HOUSE)
        houses = [book.now()]
        for deed in DEEDS:
            done(book, deed)
            houses.append(book.now())
        many = len(DEEDS)
        self.assertEqual(len(set(houses)), many + 1)
        for at in range(many, 0, -1):
            self.assertEqual(told_by(book), (houses[at], (at, many - at)))
            self.assertIsNone(book.undo())
        for at in range(many):
            self.assertEqual(told_by(book), (houses[at], (at, many - at)))
            self.assertIsNone(book.redo())
        self.assertEqual(told_by(book), (houses[many], (many, 0)))
        self.refused(NothingLeft, book.redo)

    def test_a_deed_leaves_nothing_to_redo(self):
        for deed in DEEDS + (("go_to", "here"), ("change", 0, ROWS[0]), ("set_way", "p", "back", 0)):
            book = Book(HOUSE)
            book.mark("here")
            book.put(0, ("set", "c", 1))
            book.put(0, ("set", "c", 1))
            book.undo()
            book.undo()
            self.assertEqual(book.depth(), (0, 2))
            done(book, deed)
            self.assertEqual(book.depth(), (1, 0))
            self.refused(NothingLeft, book.redo)
            book.undo()
            self.assertEqual(told_by(book), (HOUSE, (0, 1)))

    def test_a_deed_that_makes_the_same_house(self):
        book = Book(HOUSE)
        for times, deed in enumerate((("change", 0, ROWS[0]), ("set_way", "p", "back", 0), ("change", 2, ROWS[2])), 1):
            self.assertIsNone(done(book, deed))
            self.assertEqual(told_by(book), (HOUSE, (times, 0)))
        book.undo()
        book.undo()
        self.assertEqual(told_by(book), (HOUSE, (1, 2)))
        book.change(1, ROWS[1])
        self.assertEqual(told_by(book), (HOUSE, (2, 0)))

    def test_what_is_refused_changes_nothing(self):
        for kind, *deed in WRONG:
            book = Book(HOUSE)
            book.mark("first")
            book.open_box("x", 2, 0)
            book.mark("second")
            book.undo()
            self.refused(kind, done, book, deed)
            self.assertEqual(told_by(book), (HOUSE, (0, 1)))
            self.refused(NothingLeft, book.undo)
            book.redo()
            self.assertEqual(book.now()[0], HOUSE[0] + (("x", 2, 0),))
            book.go_to("first")
            self.assertEqual(book.now(), HOUSE)
            book.go_to("second")
            self.assertEqual(book.now()[0], HOUSE[0] + (("x", 2, 0),))
            self.assertEqual(book.depth(), (3, 0))

    def test_hundreds_of_deeds(self):
        book = Book(FULL_ROWS)
        houses = [FULL_ROWS]
        for time in range(600):
            book.change(time % 40, ("set", "a", (time // 40 + 1) % 2))
            houses.append(book.now())
        self.assertEqual(book.depth(), (600, 0))
        for at in range(600, 0, -1):
            self.assertEqual(told_by(book), (houses[at], (at, 600 - at)))
            book.undo()
        for at in range(600):
            self.assertEqual(book.now(), houses[at])
            book.redo()
        for time in range(300):
            book.undo()
        book.cut(0)
        self.assertEqual(book.depth(), (301, 0))
        book.undo()
        self.assertEqual(told_by(book), (houses[300], (300, 1)))


class TestMarks(BookCase):
    def test_none_at_first(self):
        for word in ("", "a", "mark"):
            self.refused(NoMark, Book(HOUSE).go_to, word)

    def test_mark_is_no_deed(self):
        book = Book(HOUSE)
        self.assertIsNone(book.mark("here"))
        self.assertEqual(told_by(book), (HOUSE, (0, 0)))
        book.cut(0)
        book.undo()
        book.mark("here")
        self.assertEqual(told_by(book), (HOUSE, (0, 1)))
        book.redo()
        self.assertEqual(book.depth(), (1, 0))

    def test_go_to_is_a_deed(self):
        book = Book(HOUSE)
        book.mark("here")
        book.cut(0)
        short = book.now()
        self.assertIsNone(book.go_to("here"))
        self.assertEqual(told_by(book), (HOUSE, (2, 0)))
        book.undo()
        self.assertEqual(told_by(book), (short, (1, 1)))
        book.redo()
        self.assertEqual(told_by(book), (HOUSE, (2, 0)))
        book.go_to("here")
        self.assertEqual(told_by(book), (HOUSE, (3, 0)))
        book.undo()
        book.undo()
        book.undo()
        self.assertEqual(told_by(book), (HOUSE, (0, 3)))
        book.go_to("here")
        self.assertEqual(told_by(book), (HOUSE, (1, 0)))

    def test_words_alike(self):
        words = ["", " ", "a", "A", "aa", "ab", "ba", "a ", " a", "a\n", "\na", "aab", "baa", "~"]
        words += ["x" * 1000, "x" * 999]
        book = Book(NOTHING)
        houses = {}
        for at, word in enumerate(words):
            book.open_box("ab"[at % 2], at // 2 % 9 + 1, 0)
            book.mark(word)
            houses[word] = book.now()
            book.shut_box("ab"[at % 2])
        self.assertEqual(len(set(houses.values())), len(words))
        for word in words:
            book.go_to(word)
            self.assertEqual(book.now(), houses[word])
        for word in ("b", "aaa", "  ", "\n", "aa ", "x" * 998, "x" * 1001):
            self.refused(NoMark, book.go_to, word)
            self.assertEqual(book.now(), houses[words[-1]])

    def test_a_word_marked_again(self):
        book = Book(HOUSE)
        book.mark("here")
        book.mark("there")
        book.cut(0)
        short = book.now()
        book.mark("here")
        book.cut(0)
        book.go_to("here")
        self.assertEqual(book.now(), short)
        book.go_to("there")
        self.assertEqual(book.now(), HOUSE)

    def test_no_undoing_changes_marks(self):
        book = Book(HOUSE)
        book.cut(0)
        short = book.now()
        book.mark("here")
        book.undo()
        book.go_to("here")
        self.assertEqual(told_by(book), (short, (1, 0)))
        book.undo()
        book.mark("here")
        book.redo()
        self.assertEqual(book.now(), short)
        book.go_to("here")
        self.assertEqual(book.now(), HOUSE)
        book.undo()
        book.undo()
        book.go_to("here")
        self.assertEqual(book.now(), HOUSE)


class TestTwins(BookCase):
    def some_book(self):
        """A book with two deeds to undo, two to redo, and two marks."""
        book = Book(HOUSE)
        book.mark("first")
        for deed in DEEDS[:4]:
            done(book, deed)
        book.mark("last")
        book.undo()
        book.undo()
        return book

    def all_told(self, book):
        """All houses that a twin of the book comes to by undoing, redoing and the two marks."""
        other = book.twin()
        told = [told_by(other)]
        for step in (other.undo, other.redo):
            while True:
                try:
                    step()
                except NothingLeft:
                    break
                told.append(told_by(other))
        for word in ("first", "last", "late"):
            try:
                other.go_to(word)
            except NoMark:
                told.append("no " + word)
            told.append(told_by(other))
        return told

    def test_the_same(self):
        book = self.some_book()
        twin = book.twin()
        self.assertIs(type(twin), Book)
        self.assertIsNot(twin, book)
        self.assertEqual(told_by(twin), told_by(book))
        self.assertEqual(twin.depth(), (2, 2))
        for step in ("undo", "undo", "redo", "redo", "redo", "redo", "undo"):
            getattr(book, step)()
            getattr(twin, step)()
            self.assertEqual(told_by(twin), told_by(book))
        for word in ("first", "last"):
            book.go_to(word)
            twin.go_to(word)
            self.assertEqual(told_by(twin), told_by(book))
        self.refused(NoMark, twin.go_to, "late")

    def test_neither_changes_the_other(self):
        def marked_anew(book):
            book.mark("first")
            book.mark("late")

        steps = [lambda book, deed=deed: done(book, deed) for deed in DEEDS]
        steps += [Book.undo, Book.redo, marked_anew, lambda book: book.go_to("last")]
        for step in steps:
            for turned in (False, True):
                book = self.some_book()
                book.undo()
                book.undo()
                kept = self.all_told(book)
                twin = book.twin()
                self.assertEqual(self.all_told(twin), kept)
                changed, other = (twin, book) if turned else (book, twin)
                if step == Book.undo:
                    changed.redo()
                step(changed)
                self.assertEqual(self.all_told(other), kept)

    def test_what_is_refused_changes_neither(self):
        for kind, *deed in WRONG:
            book = self.some_book()
            for time in range(2):
                book.undo()
            twin = book.twin()
            kept = self.all_told(book)
            self.refused(kind, done, twin, deed)
            self.assertEqual([self.all_told(book), self.all_told(twin)], [kept, kept])

    def test_a_twin_of_a_twin(self):
        one = self.some_book()
        two = one.twin()
        three = two.twin()
        kept = self.all_told(one)
        self.assertEqual([self.all_told(two), self.all_told(three)], [kept, kept])
        two.undo()
        two.mark("late")
        two.open_box("x", 2, 0)
        self.assertEqual([self.all_told(one), self.all_told(three)], [kept, kept])
        three.redo()
        three.go_to("first")
        self.assertEqual(self.all_told(one), kept)
        self.assertEqual(two.now()[0][-1], ("x", 2, 0))
        self.assertEqual([one.depth(), two.depth(), three.depth()], [(2, 2), (2, 0), (4, 0)])
        self.refused(NoMark, one.go_to, "late")
        self.refused(NoMark, three.go_to, "late")
        two.go_to("late")

    def test_a_twin_of_a_new_book(self):
        twin = Book(HOUSE).twin()
        self.assertEqual(told_by(twin), (HOUSE, (0, 0)))
        self.refused(NothingLeft, twin.undo)
        self.refused(NothingLeft, twin.redo)


class TestAsked(BookCase):
    def answers(self, book):
        """That the book answers as its present house does."""
        house = book.now()
        guesses = guesses_of(house)
        self.assertEqual([book.sent(guess) for guess in guesses], [sent(house, guess) for guess in guesses])
        self.assertEqual(book.rings(), rings(house))
        self.assertEqual(book.settlings(), settlings(house))
        self.assertEqual(book.nearest(), nearest(house))
        if rises(house):
            self.assertEqual(book.climb(), climb(house))
        else:
            self.refused(NotRising, book.climb)
        for wrong in no_guesses(house):
            self.refused(NoGuess, book.sent, wrong)

    def test_at_first(self):
        for house in (NOTHING, SHUT, HOUSE, COUNTER, *SOME[::4], *SOME_RISING[::4]):
            self.answers(Book(house))

    def test_plain_answers(self):
        book = Book(HOUSE)
        self.assertEqual([book.sent((0,)), book.sent((1,))], [(1,), (0,)])
        self.assertEqual([book.rings(), book.settlings(), book.nearest()], [[[(0,), (1,)]], [], (0,)])
        self.refused(NotRising, book.climb)
        book.change(1, ("turn", "a", (1, 1)))
        self.assertEqual([book.sent((0,)), book.sent((1,))], [(1,), (1,)])
        self.assertEqual([book.rings(), book.settlings(), book.nearest()], [[[(1,)]], [(1,)], (1,)])
        self.assertEqual(book.climb(), [(0,), (1,)])
        book.undo()
        self.refused(NotRising, book.climb)
        self.assertEqual(book.settlings(), [])

    def test_asking_changes_nothing(self):
        book = Book(HOUSE)
        book.cut(0)
        book.undo()
        self.answers(book)
        self.assertEqual(told_by(book), (HOUSE, (0, 1)))

    def test_behind_every_kind_of_deed(self):
        for deed in DEEDS:
            book = Book(HOUSE)
            book.mark("here")
            self.answers(book)
            done(book, deed)
            self.answers(book)
            for step in (("undo",), ("redo",), ("go_to", "here"), ("undo",), ("undo",)):
                done(book, step)
                self.answers(book)

    def test_behind_what_is_refused(self):
        for kind, *deed in WRONG + ((NothingLeft, "undo"), (NothingLeft, "redo")):
            book = Book(HOUSE)
            self.refused(kind, done, book, deed)
            self.answers(book)

    def test_in_both_of_two_twins(self):
        for deed in DEEDS:
            book = Book(HOUSE)
            self.answers(book)
            twin = book.twin()
            done(twin, deed)
            self.answers(book)
            self.answers(twin)
            book.change(1, ("turn", "a", (0, 1)))
            self.answers(twin)
            self.answers(book)
            twin.undo()
            self.answers(twin)

    def test_told_again_where_the_lists_were_changed(self):
        book = Book(mapped((0, 0, 2)))
        for name in ("x", "y"):
            for ask in (book.rings, book.settlings, book.climb):
                self.told_anew(ask)
            self.answers(book)
            book.open_box(name, 2, 0)
        twin = book.twin()
        for ask in (book.rings, book.settlings, book.climb, twin.rings, twin.settlings, twin.climb):
            self.told_anew(ask)


class SecondBook:
    """The book told once more: all houses in one list, and the place of the present one."""

    def __init__(self, house):
        self.houses, self.at, self.marks = [house], 0, {}

    def do(self, deed):
        """Do what is told as (name, ..), or give back the class of the refusal."""
        name, *handed = deed
        boxes, posts, rows = [list(part) for part in self.houses[self.at]]
        if name in ("undo", "redo"):
            at = self.at + (1 if name == "redo" else -1)
            if not 0 <= at < len(self.houses):
                return NothingLeft
            self.at = at
            return None
        if name == "mark":
            self.marks[handed[0]] = self.houses[self.at]
            return None
        if name == "go_to":
            if handed[0] not in self.marks:
                return NoMark
            return self.enter(*self.marks[handed[0]])
        return self.edit(name, handed, boxes, posts, rows)

    def edit(self, name, handed, boxes, posts, rows):
        if name in ("put", "cut", "change"):
            if handed[0] not in range(len(rows) + (name == "put")):
                return NoPlace
            if name == "put":
                rows.insert(handed[0], handed[1])
            elif name == "cut":
                del rows[handed[0]]
            else:
                rows[handed[0]] = handed[1]
        elif name == "open_box":
            boxes.append(tuple(handed))
        elif name == "open_post":
            posts.append(tuple(handed))
        elif name == "shut_box":
            if handed[0] not in [box[0] for box in boxes]:
                return NoBox
            for word, first, *others in rows:
                if word != "send" and first == handed[0] or word != "take" and handed[0] in others:
                    return InUse
            boxes = [box for box in boxes if box[0] != handed[0]]
        elif name == "shut_post":
            if handed[0] not in [post[0] for post in posts]:
                return NoPost
            for word, first, *others in rows:
                if word == "send" and first == handed[0] or word == "take" and handed[0] in others:
                    return InUse
            posts = [post for post in posts if post[0] != handed[0]]
        else:
            if handed[0] not in [post[0] for post in posts]:
                return NoPost
            posts = [(post[0], post[1], *handed[1:]) if post[0] == handed[0] else post for post in posts]
        return self.enter(boxes, posts, rows)

    def enter(self, boxes, posts, rows):
        try:
            house = checked(list(boxes), list(posts), list(rows))
        except HouseError as refusal:
            return type(refusal)
        self.houses[self.at + 1:] = [house]
        self.at += 1
        return None

    def told(self):
        return (self.houses[self.at], (self.at, len(self.houses) - 1 - self.at))

    def twin(self):
        other = SecondBook(NOTHING)
        other.houses, other.at, other.marks = list(self.houses), self.at, dict(self.marks)
        return other


SMALL = checked(
    [("a", 2, 0), ("b", 3, 1)], [("a", 2, "back", 0), ("d", 3, "on", 1)],
    [("take", "a", "d"), ("send", "a", "b"), ("take", "b", "a")],
)


def some_deed(chance):
    """A deed, perhaps a wrong one."""
    names = ("a", "b", "c", "d", "D")
    name, other, third = [chance.choice(names) for time in range(3)]
    number, at = chance.randint(0, 3), chance.randint(-1, 6)
    row = chance.choice((
        ("set", name, number), ("copy", name, other), ("sum", name, other, third), ("pick", name, other, third, name),
        ("turn", name, (1, 0)), ("send", name, other), ("take", name, other), ("most", name, other, third), (),
    ))
    way = chance.choice(("on", "back", "held", "off"))
    return chance.choice((
        ("put", at, row), ("put", at, row), ("put", at, row), ("cut", at), ("change", at, row),
        ("open_box", name, chance.randint(2, 3), number % 2), ("open_box", name, number, 0),
        ("open_post", name, 2, way, number), ("open_post", name, number, way, 0), ("shut_box", name),
        ("shut_post", name), ("set_way", name, way, number), ("go_to", chance.choice("xyz")),
        ("mark", chance.choice("xyz")), ("undo",), ("undo",), ("redo",),
    ))


class TestManyDeeds(BookCase):
    def test_as_told_a_second_time(self):
        met = set()
        for seed in range(40):
            chance = random.Random(seed)
            house = chance.choice((NOTHING, SMALL, SMALL))
            pairs = [(Book(house), SecondBook(house))]
            for time in range(150):
                book, second = chance.choice(pairs)
                deed = some_deed(chance)
                wanted = second.do(deed)
                met.add((deed[0], wanted))
                if wanted is None:
                    self.assertIsNone(done(book, deed))
                else:
                    self.refused(wanted, done, book, deed)
                if len(pairs) < 3 and chance.random() < 0.02:
                    pairs.append((book.twin(), second.twin()))
                for one, other in pairs:
                    self.assertEqual(told_by(one), other.told())
        # Each deed was done and each of its plain refusals met.
        self.assertLessEqual({
            (name, kind) for name, kinds in {
                "put": (None, NoPlace, NoRow), "cut": (None, NoPlace), "change": (None, NoPlace, NoRow),
                "open_box": (None, NoName, Twice, NoSize), "open_post": (None, NoName, Twice, NoSize, NoWay),
                "shut_box": (None, NoBox, InUse), "shut_post": (None, NoPost, InUse),
                "set_way": (None, NoPost, NoWay, NoSize), "go_to": (None, NoMark), "mark": (None,),
                "undo": (None, NothingLeft), "redo": (None, NothingLeft),
            }.items() for kind in kinds
        }, met)


if __name__ == "__main__":
    unittest.main()
