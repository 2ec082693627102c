"""Names and good rows: points 2 and 3."""

import unittest

from yesterpost.rows import good_row, is_name

SMALL = "abcdefghijklmnopqrstuvwxyz"
SIGNS = "\n" + "".join(chr(code) for code in range(32, 127) if chr(code) != "%")

# "both" is a box and a post; the other names are of one kind only.
BOXES = (("a", 3, 0), ("b", 1, 0), ("c", 9, 8), ("both", 2, 1))
POSTS = (("p", 3, "on", 0), ("q", 2, "back", 1), ("both", 4, "held", 3))

GOOD = (
    ("set", "a", 2),
    ("copy", "a", "b"),
    ("least", "a", "b", "c"),
    ("most", "a", "b", "c"),
    ("sum", "a", "b", "c"),
    ("pick", "a", "b", "c", "both"),
    ("turn", "a", (2, 0, 1)),
    ("send", "p", "a"),
    ("take", "a", "p"),
)

# By word, the kind of each part behind it.
KINDS = {
    "set": ("box", "number"),
    "copy": ("box", "box"),
    "least": ("box", "box", "box"),
    "most": ("box", "box", "box"),
    "sum": ("box", "box", "box"),
    "pick": ("box", "box", "box", "box"),
    "turn": ("box", "table"),
    "send": ("post", "box"),
    "take": ("box", "post"),
}

# What is no part of the kind in a row whose box has the size 3.
WRONG = {
    "box": ("p", "q", "zz", "", "A", "a ", "set", "box", 0, 1, -1, 3, (), (0,), (0, 1, 2)),
    "post": ("a", "b", "c", "zz", "", "P", "p\n", "on", "post", 0, 1, -1, 3, (), (0,), (0, 1, 2)),
    "number": (-1, 3, 4, 9, -10 ** 70, 10 ** 70, "", "0", "1", "a", "p", (), (0,), (1,), (0, 1, 2)),
    "table": (
        (), (0,), (0, 1), (0, 1, 2, 0), (0, 1, 2, 0, 1, 2), (-1, 0, 1), (0, -1, 1), (0, 1, -1),
        (3, 0, 1), (0, 3, 1), (0, 1, 3), (0, 10 ** 70, 1), "", "a", "012", 0, 1, 3, -1,
    ),
}


def replaced(row, at, part):
    return row[:at] + (part,) + row[at + 1:]


class TestNames(unittest.TestCase):
    def test_lengths(self):
        self.assertIs(is_name(""), False)
        for many in range(1, 9):
            self.assertIs(is_name("a" * many), True)
        for many in (9, 10, 16, 300):
            self.assertIs(is_name("a" * many), False)

    def test_every_small_letter(self):
        for letter in SMALL:
            self.assertIs(is_name(letter), True)
        self.assertIs(is_name("abcdefgh"), True)
        self.assertIs(is_name("zyxwvuts"), True)

    def test_every_other_sign_at_every_place(self):
        for sign in SIGNS:
            if sign in SMALL:
                continue
            for many in range(8):
                for at in range(many + 1):
                    word = "q" * at + sign + "q" * (many - at)
                    self.assertIs(is_name(word), False, repr(word))

    def test_nothing_but_other_signs(self):
        for word in (" ", "\n", "A", "ABC", "0", "12", "-", "`", "{", "        ", "a b", "on\n", "\non"):
            self.assertIs(is_name(word), False, repr(word))


class TestGoodRows(unittest.TestCase):
    def good(self, row, boxes=BOXES, posts=POSTS):
        self.assertIs(good_row(boxes, posts, row), True, repr(row))

    def bad(self, row, boxes=BOXES, posts=POSTS):
        self.assertIs(good_row(boxes, posts, row), False, repr(row))

    def test_each_word(self):
        self.assertEqual([row[0] for row in GOOD], list(KINDS))
        for row in GOOD:
            self.good(row)

    def test_boxes_and_posts_as_lists_and_as_tuples(self):
        for row in GOOD:
            self.good(row, list(BOXES), list(POSTS))
            self.good(row, BOXES, list(POSTS))
            self.good(row, list(BOXES), POSTS)
            self.bad(row, [], [])
            self.bad(row, (), ())
            self.bad(replaced(row, 1, "zz"), list(BOXES), list(POSTS))

    def test_no_parts(self):
        self.bad(())
        self.bad((), [], [])

    def test_a_word_alone(self):
        for word in KINDS:
            self.bad((word,))

    def test_another_word(self):
        for row in GOOD:
            for word in ("", "Set", "SET", "set ", "sets", "se", "add", "a", "p", "box", "post", "on", "turn\n"):
                self.bad(replaced(row, 0, word))

    def test_no_text_for_a_word(self):
        for row in GOOD:
            for word in (0, 1, -1, 3, (), (0,), (0, 1, 2)):
                self.bad(replaced(row, 0, word))
                self.bad((word,))

    def test_the_word_of_another_row(self):
        for row in GOOD:
            for word in KINDS:
                if KINDS[word] != KINDS[row[0]]:
                    self.bad(replaced(row, 0, word))

    def test_the_word_behind(self):
        for row in GOOD:
            self.bad(row[1:] + row[:1])

    def test_a_part_left_out(self):
        for row in GOOD:
            for at in range(len(row)):
                self.bad(row[:at] + row[at + 1:])

    def test_a_part_put_in(self):
        for row in GOOD:
            for more in ("a", "p", "both", "set", 0, (), (0, 1, 2)):
                for at in range(len(row) + 1):
                    self.bad(row[:at] + (more,) + row[at:])

    def test_each_part_of_the_wrong_kind(self):
        for row in GOOD:
            for at, kind in enumerate(KINDS[row[0]], start=1):
                for part in WRONG[kind]:
                    self.bad(replaced(row, at, part))

    def test_every_box_at_every_place_of_a_box(self):
        for row in GOOD:
            for at, kind in enumerate(KINDS[row[0]], start=1):
                if kind == "box" and row[0] not in ("set", "turn"):
                    for name in ("a", "b", "c", "both"):
                        self.good(replaced(row, at, name))

    def test_every_post_at_every_place_of_a_post(self):
        for name in ("p", "q", "both"):
            self.good(("send", name, "a"))
            self.good(("take", "a", name))

    def test_a_box_and_a_post_of_one_name(self):
        self.good(("send", "both", "both"))
        self.good(("take", "both", "both"))
        self.bad(("send", "both", "both"), BOXES[:3], POSTS)
        self.bad(("take", "both", "both"), BOXES, POSTS[:2])

    def test_numbers_up_to_each_size(self):
        for name, size in (("a", 3), ("b", 1), ("c", 9), ("both", 2)):
            for number in range(size):
                self.good(("set", name, number))
            for number in (-1, -size, size, size + 1, 10 ** 70):
                self.bad(("set", name, number))

    def test_the_size_is_that_of_the_box_and_not_of_the_post(self):
        self.bad(("set", "both", 2))
        self.bad(("turn", "both", (0, 1, 2, 3)))
        self.good(("turn", "both", (1, 0)))

    def test_tables_for_each_size(self):
        for name, size in (("a", 3), ("b", 1), ("c", 9), ("both", 2)):
            self.good(("turn", name, (0,) * size))
            self.good(("turn", name, (size - 1,) * size))
            self.good(("turn", name, tuple(range(size))))
            self.bad(("turn", name, (0,) * (size - 1)))
            self.bad(("turn", name, (0,) * (size + 1)))
            for at in range(size):
                self.bad(("turn", name, replaced((0,) * size, at, -1)))
                self.bad(("turn", name, replaced((0,) * size, at, size)))

    def test_no_table_for_a_box_that_is_not_there(self):
        self.bad(("turn", "zz", ()))
        self.bad(("turn", "p", (0, 1, 2)))
        self.bad(("turn", (0, 1, 2), "a"))
        self.bad(("turn", (0, 1, 2), (0, 1, 2)))
        self.bad(("set", "zz", 0))
        self.bad(("set", 0, 0))
        self.bad(("set", (), 0))

    def test_one_box_at_several_places(self):
        for row in (
            ("copy", "a", "a"), ("least", "a", "a", "a"), ("most", "b", "a", "a"), ("sum", "a", "b", "a"),
            ("pick", "a", "a", "a", "a"), ("pick", "a", "b", "b", "a"),
        ):
            self.good(row)

    def test_nothing_handed_in_is_changed(self):
        boxes, posts = list(BOXES), list(POSTS)
        for row in GOOD + (("set", "a", 3), ()):
            good_row(boxes, posts, row)
        self.assertEqual((boxes, posts), (list(BOXES), list(POSTS)))


if __name__ == "__main__":
    unittest.main()
