"""Pages: point 24."""

import random
import re
import unittest

from houses import COUNTER, LONG_ROAD, NOTHING, SHUT, SOME, SOME_GREAT, HouseCase, mapped
from yesterpost.errors import HouseError, NoPage
from yesterpost.home import checked
from yesterpost.page import read, write

# All nine words, and names that are words of lines.
FULL = checked(
    [("box", 2, 1), ("b", 3, 2), ("post", 9, 8), ("set", 1, 0)],
    [("p", 3, "back", 1), ("box", 2, "on", 0), ("on", 2, "held", 1), ("turn", 2, "back", 0)],
    [
        ("set", "box", 0), ("copy", "box", "b"), ("least", "b", "box", "post"), ("most", "post", "b", "set"),
        ("sum", "b", "b", "b"), ("pick", "set", "box", "post", "b"), ("turn", "b", (2, 1, 0)),
        ("turn", "post", (8, 0, 1, 1, 2, 3, 5, 8, 4)), ("turn", "set", (0,)), ("send", "box", "box"),
        ("take", "box", "turn"), ("set", "post", 8),
    ],
)
FULL_PAGE = """box box 2 1
box b 3 2
box post 9 8
box set 1 0
post p 3 back 1
post box 2 on 0
post on 2 held 1
post turn 2 back 0
set box 0
copy box b
least b box post
most post b set
sum b b b
pick set box post b
turn b 2 1 0
turn post 8 0 1 1 2 3 5 8 4
turn set 0
send box box
take box turn
set post 8"""
FULL_LINES = FULL_PAGE.split("\n")
HOUSES = (NOTHING, SHUT, FULL, COUNTER, LONG_ROAD, mapped((1, 2, 0)), *SOME, *SOME_GREAT)

NAME = "[a-z]{1,8}"
FORMS = {
    "box": f"box {NAME} [0-9] [0-9]", "post": f"post {NAME} [0-9] (on|back|held) [0-9]", "set": f"set {NAME} [0-9]",
    "turn": f"turn {NAME}( [0-9]){{1,9}}",
    **{word: word + f" {NAME}" * many for word, many in (
        ("copy", 2), ("least", 3), ("most", 3), ("sum", 3), ("pick", 4), ("send", 2), ("take", 2),
    )},
}


def second_read(text):
    """The house of the page, or the number of its first wrong line, told once more by patterns."""
    boxes, posts, rows = [], [], []
    for at, line in enumerate(text.split("\n") if text else [], 1):
        word, *rest = line.split(" ")
        if word not in FORMS or not re.fullmatch(FORMS[word], line):
            return at
        parts = [int(part) if part.isdigit() else part for part in rest]
        if word == "box":
            boxes.append(tuple(parts))
        elif word == "post":
            posts.append(tuple(parts))
        elif word == "turn":
            rows.append((word, parts[0], tuple(parts[1:])))
        else:
            rows.append((word, *parts))
        if word == "box" and posts + rows or word == "post" and rows:
            return at
        try:
            checked(boxes, posts, rows)
        except HouseError:
            return at
    return (tuple(boxes), tuple(posts), tuple(rows))


class PageCase(HouseCase):
    def wrong(self, at, text):
        """That the text is no page by the line of this number."""
        self.refused(NoPage, read, text)
        with self.assertRaises(NoPage) as caught:
            read(text)
        self.assertEqual(caught.exception.at, at, text)
        self.assertIs(type(caught.exception.at), int)

    def as_told_a_second_time(self, text):
        wanted = second_read(text)
        if isinstance(wanted, int):
            self.wrong(wanted, text)
        else:
            self.assertEqual(read(text), wanted)
            self.assertEqual(write(wanted), text)


class TestWrite(PageCase):
    def test_a_house_of_nothing(self):
        self.assertEqual(write(NOTHING), "")

    def test_all_lines(self):
        self.assertEqual(write(FULL), FULL_PAGE)

    def test_one_line(self):
        self.assertEqual(write(checked([("a", 9, 8)], [], [])), "box a 9 8")
        self.assertEqual(write(checked([], [("abcdefgh", 1, "held", 0)], [])), "post abcdefgh 1 held 0")

    def test_each_in_the_houses_order(self):
        house = checked([("b", 2, 0), ("a", 2, 0)], [("q", 2, "on", 0), ("p", 2, "back", 1)], [("copy", "b", "a")] * 2)
        wanted = "box b 2 0\nbox a 2 0\npost q 2 on 0\npost p 2 back 1\ncopy b a\ncopy b a"
        self.assertEqual(write(house), wanted)


class TestRead(PageCase):
    def test_the_page_without_signs(self):
        self.assertEqual(read(""), NOTHING)

    def test_all_lines(self):
        told = read(FULL_PAGE)
        self.assertEqual(told, FULL)
        self.assertEqual([type(told), *map(type, told)], [tuple] * 4)
        self.assertEqual({type(part) for parts in told for part in parts}, {tuple})

    def test_what_was_written(self):
        for house in HOUSES:
            page = write(house)
            self.assertEqual(read(page), house)
            self.assertEqual(write(read(page)), page)
            self.assertEqual(second_read(page), house)

    def test_each_beginning_of_a_page(self):
        for many in range(1, len(FULL_LINES)):
            self.as_told_a_second_time("\n".join(FULL_LINES[:many]))

    def test_at_the_bounds(self):
        boxes = [(name, 9, 8) for name in "abcdefgh"]
        posts = [(name, size, "back", 0) for name, size in zip("abcdef", (4, 4, 4, 4, 1, 1))]
        house = checked(boxes, posts, [("turn", "a", (8, 7, 6, 5, 4, 3, 2, 1, 0)), ("pick", "a", "b", "c", "d")] * 20)
        self.assertEqual(read(write(house)), house)
        self.assertEqual(len(write(house).split("\n")), 54)


class TestNoPage(PageCase):
    def test_lines_left_out_twice_or_exchanged(self):
        pages = 0
        for house in (FULL, SHUT, mapped((1, 2, 0)), *SOME[:30:3]):
            lines = write(house).split("\n")
            for one in range(len(lines)):
                for changed in (lines[:one] + lines[one + 1:], lines[:one] + [lines[one]] + lines[one:]):
                    self.as_told_a_second_time("\n".join(changed))
                    pages += isinstance(second_read("\n".join(changed)), tuple)
                for other in range(one):
                    changed = list(lines)
                    changed[one], changed[other] = lines[other], lines[one]
                    self.as_told_a_second_time("\n".join(changed))
                    pages += isinstance(second_read("\n".join(changed)), tuple)
                    changed[one] = changed[other]
                    self.as_told_a_second_time("\n".join(changed))
        self.assertGreater(pages, 50)

    def test_out_of_order(self):
        self.wrong(2, "post p 2 on 0\nbox a 2 0")
        self.wrong(3, "box a 2 0\nset a 0\nbox b 2 0")
        self.wrong(3, "box a 2 0\nset a 0\npost p 2 on 0")
        self.wrong(4, "box a 2 0\npost p 2 on 0\nset a 0\nbox b 2 0")
        self.wrong(3, "box a 2 0\npost p 2 on 0\nbox b 2 0\nset a 0")
        self.wrong(1, "set a 0\nbox a 2 0")
        # The line's own faults count no more than its place.
        self.wrong(2, "post p 2 on 0\nbox a 2 9\nno line")

    def test_lines_without_signs(self):
        self.wrong(1, "\n")
        self.wrong(1, "\n\n\n")
        self.wrong(1, "\nbox a 2 0")
        self.wrong(2, "box a 2 0\n")
        self.wrong(2, "box a 2 0\n\nbox b 2 0")
        self.wrong(len(FULL_LINES) + 1, FULL_PAGE + "\n")
        self.wrong(len(FULL_LINES) + 1, FULL_PAGE + "\n\n")
        for at in range(len(FULL_LINES)):
            self.wrong(at + 1, "\n".join(FULL_LINES[:at] + [""] + FULL_LINES[at:]))

    def test_words_too_many_or_too_few(self):
        for at, line in enumerate(FULL_LINES):
            words = line.split(" ")
            for place in range(len(words) + 1):
                for more in ("box", "b", "0", "on", "x"):
                    changed = " ".join(words[:place] + [more] + words[place:])
                    self.as_told_a_second_time("\n".join(FULL_LINES[:at] + [changed] + FULL_LINES[at + 1:]))
            for place in range(len(words)):
                changed = " ".join(words[:place] + words[place + 1:])
                self.wrong(at + 1, "\n".join(FULL_LINES[:at] + [changed] + FULL_LINES[at + 1:]))
            self.wrong(at + 1, "\n".join(FULL_LINES[:at] + [line + " 0"] + FULL_LINES[at + 1:]))
            self.wrong(at + 1, "\n".join(FULL_LINES[:at] + [line + " b"] + FULL_LINES[at + 1:]))

    def test_blanks_too_many(self):
        for at, line in enumerate(FULL_LINES):
            places = [place for place, sign in enumerate(line) if sign == " "]
            for place in [0, len(line)] + places:
                changed = line[:place] + " " + line[place:]
                self.wrong(at + 1, "\n".join(FULL_LINES[:at] + [changed] + FULL_LINES[at + 1:]))
        for line in (" ", "  ", " \n", " box a 2 0", "box a 2 0 ", "box  a 2 0", "box a  2 0", "box a 2 0  "):
            self.wrong(1, line)

    def test_numbers_of_other_than_one_figure(self):
        ahead = "box a 2 1\nbox b 9 0\npost p 2 on 0\n"
        for wrong in ("00", "01", "10", "+1", "-1", "-0", "1.", "x", "1e0", "0x1", "one", "1_0", "99999", "~", "-"):
            self.wrong(1, f"box a {wrong} 0")
            self.wrong(1, f"box a 9 {wrong}")
            self.wrong(1, f"post p {wrong} on 0")
            self.wrong(1, f"post p 9 on {wrong}")
            self.wrong(4, ahead + f"set a {wrong}")
            self.wrong(4, ahead + f"turn a {wrong} 0")
            self.wrong(4, ahead + f"turn a 0 {wrong}")
            self.wrong(4, ahead + f"turn b 0 1 2 3 4 5 6 7 {wrong}")
        self.wrong(4, ahead + "turn a 01")
        self.wrong(4, ahead + "turn a (0, 1)")

    def test_numbers_out_of_bounds(self):
        for line in ("box a 0 0", "box a 2 2", "box a 2 9", "post p 0 on 0", "post p 3 on 3"):
            self.wrong(1, line)
            self.wrong(2, "box b 2 0\n" + line)
        for line in ("set a 2", "set a 9", "turn a 0 2", "turn a 0", "turn a 0 1 0", "turn a"):
            self.wrong(2, "box a 2 0\n" + line)

    def test_words_that_are_none(self):
        for word in ("Box", "boxes", "bo", "SET", "sett", "se", "~", "none", "back", "house", "-", "0", "a"):
            self.wrong(1, f"{word} a 2 0")
            self.wrong(1, word)
            self.wrong(2, f"box a 2 0\n{word} a 0")
            self.wrong(2, f"box a 2 0\n{word} a a")
        for line in ("box", "post", "set", "copy", "least", "most", "sum", "pick", "turn", "send", "take"):
            self.wrong(1, line)
            self.wrong(2, "box a 2 0\n" + line)

    def test_no_names_and_ways(self):
        for name in ("A", "abcdefghi", "a1", "a-b", "~", "1"):
            self.wrong(1, f"box {name} 2 0")
            self.wrong(1, f"post {name} 2 on 0")
            self.wrong(2, f"box a 2 0\nset {name} 0")
        for way in ("On", "off", "2", "~", "b", "backk", "on,"):
            self.wrong(1, f"post p 2 {way} 0")

    def test_names_twice(self):
        self.wrong(3, "box a 2 0\nbox b 2 0\nbox a 3 0\nno line")
        self.wrong(3, "post a 2 on 0\npost b 2 on 0\npost a 3 back 0")
        self.assertEqual(read("box a 2 0\npost a 2 on 0"), ((("a", 2, 0),), (("a", 2, "on", 0),), ()))

    def test_too_great(self):
        boxes = [f"box {name} 2 0" for name in "abcdefghi"]
        posts = [f"post {name} 1 on 0" for name in "abcdefg"]
        rows = ["set a 0"] * 41
        self.wrong(9, "\n".join(boxes))
        self.wrong(15, "\n".join(boxes[:8] + posts + rows))
        self.wrong(55, "\n".join(boxes[:8] + posts[:6] + rows))
        self.assertEqual([len(part) for part in read("\n".join(boxes[:8] + posts[:6] + rows[:40]))], [8, 6, 40])
        self.wrong(4, "post a 9 on 0\npost b 9 held 0\npost c 3 back 0\npost d 2 on 0\npost e 1 on 0")
        self.assertEqual(len(read("post a 8 on 0\npost b 8 held 0\npost c 4 back 0")[1]), 3)
        self.wrong(42, "\n".join(boxes[:1] + rows + ["no line"] * 10000))

    def test_rows_that_are_not_good(self):
        ahead = "box a 2 0\nbox b 3 0\npost p 2 back 0\n"
        for row in (
            "set p 0", "set c 0", "copy a c", "copy c a", "copy a p", "least a b p", "most a p b", "sum c a b",
            "pick a a a c", "send a a", "send p p", "send a p", "take p a", "take a b", "take a c", "turn p 0 1",
            "turn c 0 1", "turn a 0 1 2", "turn b 0 1", "turn b 0 1 3", "set a 2", "copy a 1", "set a a",
        ):
            self.wrong(4, ahead + row)
            self.wrong(5, ahead + "set a 0\n" + row + "\nset a 0")

    def test_the_first_of_several(self):
        self.wrong(2, "box a 2 0\nbox a 2 0\nbox a 2 0")
        self.wrong(1, "no line\nbox a 2 0\n")
        self.wrong(3, "box a 2 0\nset a 0\nset b 0\n\nbox c 2 0")

    def test_sign_by_sign(self):
        chance = random.Random(24)
        pages = 0
        for time in range(3000):
            house = chance.choice((FULL, SHUT, mapped((1, 0)), SOME[time % len(SOME)]))
            text = write(house)
            for change in range(chance.randint(1, 2)):
                place = chance.randint(0, len(text))
                more = chance.choice(("", " ", "\n", "0", "1", "2", "9", "a", "b", "p", "~", "-"))
                text = text[:place] + more + text[place + chance.randint(0, 1):]
            self.as_told_a_second_time(text)
            pages += isinstance(second_read(text), tuple)
        self.assertGreater(pages, 50)


if __name__ == "__main__":
    unittest.main()
