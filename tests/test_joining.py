"""Two houses beside one another, and other names: points 21 and 22."""

import random
import unittest
from itertools import product
from math import gcd, lcm

from houses import COUNTER, LONG_ROAD, NOTHING, SHUT, SOME, HouseCase, crossed, guesses_of, mapped, second_sent
from yesterpost.day import sent
from yesterpost.errors import Clash, NoName, TooGreat, Twice
from yesterpost.home import checked
from yesterpost.joining import beside, renamed
from yesterpost.settle import settlings
from yesterpost.web import rings

# All nine words, and boxes and posts that share names.
FULL = checked(
    [("a", 2, 1), ("b", 3, 2), ("p", 9, 0), ("set", 1, 0)],
    [("p", 3, "back", 1), ("a", 2, "on", 0), ("q", 2, "held", 1), ("turn", 2, "back", 0)],
    [
        ("set", "a", 0), ("copy", "a", "b"), ("least", "b", "a", "p"), ("most", "p", "b", "set"),
        ("sum", "b", "b", "b"), ("pick", "set", "a", "p", "b"), ("turn", "b", (2, 1, 0)), ("turn", "set", (0,)),
        ("send", "p", "p"), ("send", "a", "a"), ("send", "q", "a"), ("send", "turn", "b"), ("take", "a", "p"),
        ("take", "p", "a"), ("take", "b", "q"), ("take", "set", "turn"),
    ],
)


def box(name, size=2):
    return (name, size, 0)


def post(name, size=2, way="back"):
    return (name, size, way, 0)


def of(boxes=(), posts=(), rows=()):
    return checked(list(boxes), list(posts), list(rows))


def other_names(house, head):
    """The house with this letter ahead of each name."""
    return renamed(house, [head + each[0] for each in house[0]], [head + each[0] for each in house[1]])


class TestBeside(HouseCase):
    def test_of_nothing(self):
        self.assertEqual(beside(NOTHING, NOTHING), NOTHING)
        for house in (SHUT, COUNTER, FULL, *SOME[:20]):
            self.assertEqual(beside(house, NOTHING), house)
            self.assertEqual(beside(NOTHING, house), house)

    def test_the_one_and_behind_it_the_other(self):
        one = of([box("a"), box("b", 3)], [post("p"), post("q", 3, "on")], [("set", "a", 1), ("send", "p", "a")])
        other = of([box("d"), box("c")], [post("s", 4), post("r")], [("take", "d", "s"), ("send", "r", "c")])
        wanted = (
            (("a", 2, 0), ("b", 3, 0), ("d", 2, 0), ("c", 2, 0)),
            (("p", 2, "back", 0), ("q", 3, "on", 0), ("s", 4, "back", 0), ("r", 2, "back", 0)),
            (("set", "a", 1), ("send", "p", "a"), ("take", "d", "s"), ("send", "r", "c")),
        )
        self.assertEqual(beside(one, other), wanted)
        self.assertEqual(beside(other, one), tuple(part[2:] + part[:2] for part in wanted))

    def test_a_house_is_told(self):
        for house in SOME[:40]:
            told = beside(house, other_names(mapped((1, 0)), "x"))
            self.assertEqual([type(told), *map(type, told)], [tuple] * 4)
            self.assertEqual(told, checked(*[list(part) for part in told]))

    def test_a_box_and_a_post_may_have_one_name(self):
        told = beside(of([box("a")], [post("b")]), of([box("b")], [post("a")]))
        self.assertEqual(told, ((box("a"), box("b")), (post("b"), post("a")), ()))

    def test_guesses_are_the_ones_followed_by_the_others(self):
        for one, other in ((mapped((1, 2, 0)), SOME[3]), (SOME[5], mapped((0, 0))), (mapped((1, 0)), SHUT)):
            other = other_names(other, "x")
            told = beside(one, other)
            self.assertEqual(guesses_of(told), [x + y for x, y in product(guesses_of(one), guesses_of(other))])
            for x, y in product(guesses_of(one), guesses_of(other)):
                self.assertEqual(sent(told, x + y), second_sent(one, x) + second_sent(other, y))
            self.assertEqual(settlings(told), [x + y for x, y in product(settlings(one), settlings(other))])

    def test_rings_of_both(self):
        webs = [(0,), (1, 0), (1, 2, 0), (1, 2, 3, 0), (1, 0, 3, 4, 5, 2), (1, 2, 0, 4, 3, 3, 0)]
        for one, other in product(webs, webs):
            mine, yours = mapped(one), other_names(mapped(other), "x")
            told = rings(beside(mine, yours))
            wanted = []
            for x, y in product(rings(mine), rings(yours)):
                wanted += [lcm(len(x), len(y))] * gcd(len(x), len(y))
                among = [ring for ring in told if ring[0][:1] in x and ring[0][1:] in y]
                self.assertEqual([len(ring) for ring in among], [lcm(len(x), len(y))] * gcd(len(x), len(y)))
            self.assertEqual(sorted(len(ring) for ring in told), sorted(wanted))

    def test_clash_of_boxes(self):
        self.refused(Clash, beside, of([box("a")]), of([box("a", 3)]))
        self.refused(Clash, beside, of([box("a"), box("b")]), of([box("c"), box("b")]))
        self.refused(Clash, beside, of([box("b"), box("a")]), of([box("b"), box("d"), box("c")]))

    def test_clash_of_posts(self):
        self.refused(Clash, beside, of([], [post("a")]), of([], [post("a", 3, "held")]))
        self.refused(Clash, beside, of([], [post("a"), post("b")]), of([], [post("c"), post("b")]))
        self.refused(Clash, beside, of([], [post("b"), post("a")]), of([], [post("b"), post("d"), post("c")]))
        self.refused(Clash, beside, of([box("a")], [post("b")]), of([box("c")], [post("b")]))

    def test_beside_itself(self):
        for house in (SHUT, FULL, COUNTER):
            self.refused(Clash, beside, house, house)

    def test_too_many_boxes(self):
        one, other = of([box(name) for name in "abcd"]), of([box(name) for name in "efgh"])
        self.assertEqual(beside(one, other), of([box(name) for name in "abcdefgh"]))
        self.refused(TooGreat, beside, one, of([box(name) for name in "efghi"]))
        self.refused(TooGreat, beside, of([box(name) for name in "abcdefgh"]), of([box("i")]))

    def test_too_many_posts(self):
        one, other = of([], [post(name, 1) for name in "abc"]), of([], [post(name, 1) for name in "def"])
        self.assertEqual(beside(one, other), of([], [post(name, 1) for name in "abcdef"]))
        self.refused(TooGreat, beside, one, of([], [post(name, 1) for name in "defg"]))

    def test_too_great_a_product(self):
        one = of([], [post("a", 8), post("b", 4, "held")])
        self.assertEqual(beside(one, of([], [post("c", 8)]))[1], (*one[1], post("c", 8)))
        self.refused(TooGreat, beside, one, of([], [post("c", 9)]))
        self.refused(TooGreat, beside, one, of([], [post("c", 9, "on")]))

    def test_too_many_rows(self):
        one, other = of([box("a")], [], [("set", "a", 0)] * 20), of([box("b")], [], [("set", "b", 1)] * 20)
        self.assertEqual(beside(one, other)[2], one[2] + other[2])
        self.refused(TooGreat, beside, one, of([box("b")], [], [("set", "b", 1)] * 21))

    def test_clash_ahead_of_too_great(self):
        many = of([box(name) for name in "abcdefgh"])
        self.refused(Clash, beside, many, of([box("h")]))
        self.refused(Clash, beside, many, of([box("i"), box("a")]))
        self.refused(Clash, beside, of([box(name) for name in "abcde"], [post("p")]),
                     of([box(name) for name in "fghi"], [post("p")]))
        self.refused(Clash, beside, of([], [post("a", 9), post("b", 9)]), of([], [post("c", 9), post("b", 2)]))
        self.refused(Clash, beside, of([box("a")], [], [("set", "a", 0)] * 40), of([box("a")], [], [("set", "a", 0)]))

    def test_at_the_bounds(self):
        one = of(
            [box(name, 9) for name in "abcd"], [post("p", 4), post("q", 4), post("r", 1)],
            [("take", "a", "p"), ("take", "b", "q"), ("sum", "c", "a", "b"), ("send", "p", "c")] * 5,
        )
        other = other_names(one, "x")
        told = beside(one, other)
        self.assertEqual([len(part) for part in told], [8, 6, 40])
        self.assertEqual(len(guesses_of(told)), 256)
        among = sum(gcd(len(x), len(y)) for x, y in product(rings(one), rings(other)))
        self.assertEqual(len(rings(told)), among)


class TestRenamed(HouseCase):
    def test_of_nothing(self):
        self.assertEqual(renamed(NOTHING, [], []), NOTHING)

    def test_names_in_all_rows(self):
        wanted = (
            (("k", 2, 1), ("l", 3, 2), ("m", 9, 0), ("n", 1, 0)),
            (("w", 3, "back", 1), ("x", 2, "on", 0), ("y", 2, "held", 1), ("z", 2, "back", 0)),
            (
                ("set", "k", 0), ("copy", "k", "l"), ("least", "l", "k", "m"), ("most", "m", "l", "n"),
                ("sum", "l", "l", "l"), ("pick", "n", "k", "m", "l"), ("turn", "l", (2, 1, 0)), ("turn", "n", (0,)),
                ("send", "w", "m"), ("send", "x", "k"), ("send", "y", "k"), ("send", "z", "l"), ("take", "k", "w"),
                ("take", "m", "x"), ("take", "l", "y"), ("take", "n", "z"),
            ),
        )
        told = renamed(FULL, ["k", "l", "m", "n"], ["w", "x", "y", "z"])
        self.assertEqual(told, wanted)
        self.assertEqual([type(told), *map(type, told)], [tuple] * 4)

    def test_names_exchanged(self):
        told = renamed(FULL, ["b", "a", "set", "p"], ["a", "p", "turn", "q"])
        self.assertEqual([each[0] for each in told[0]], ["b", "a", "set", "p"])
        self.assertEqual([each[0] for each in told[1]], ["a", "p", "turn", "q"])
        self.assertEqual(told[2][2:5], (("least", "a", "b", "set"), ("most", "set", "a", "p"), ("sum", "a", "a", "a")))
        self.assertEqual(told[2][8:10], (("send", "a", "set"), ("send", "p", "b")))
        self.assertEqual(told[2][12:14], (("take", "b", "a"), ("take", "set", "p")))

    def test_words_as_names(self):
        house = of([box("a"), box("b")], [post("a")], [("set", "a", 1), ("copy", "b", "a"), ("take", "a", "a")])
        wanted = of(
            [box("copy"), box("take")], [post("set")],
            [("set", "copy", 1), ("copy", "take", "copy"), ("take", "copy", "set")],
        )
        self.assertEqual(renamed(house, ["copy", "take"], ["set"]), wanted)

    def test_a_box_and_a_post_of_one_name(self):
        house = of([box("a")], [post("a")], [("take", "a", "a"), ("send", "a", "a")])
        self.assertEqual(renamed(house, ["b"], ["c"])[2], (("take", "b", "c"), ("send", "c", "b")))
        self.assertEqual(renamed(house, ["b"], ["a"])[2], (("take", "b", "a"), ("send", "a", "b")))
        self.assertEqual(renamed(house, ["a"], ["c"])[2], (("take", "a", "c"), ("send", "c", "a")))
        self.assertEqual(renamed(house, ["z"], ["z"])[2], (("take", "z", "z"), ("send", "z", "z")))

    def test_the_same_names(self):
        for house in (SHUT, FULL, COUNTER, *SOME):
            names = [each[0] for each in house[0]], [each[0] for each in house[1]]
            self.assertEqual(renamed(house, *names), house)

    def test_there_and_back(self):
        chance = random.Random(22)
        for house in (SHUT, FULL, COUNTER, LONG_ROAD, *SOME):
            old = [each[0] for each in house[0]], [each[0] for each in house[1]]
            new = [chance.sample([x + y for x in "abz" for y in "abz"], len(names)) for names in old]
            told = renamed(house, *new)
            self.assertEqual(([each[0] for each in told[0]], [each[0] for each in told[1]]), tuple(new))
            self.assertEqual(renamed(told, *old), house)

    def test_a_day_is_the_same(self):
        for house in (FULL, crossed((1, 0), (0, 1)), *SOME[::3]):
            told = other_names(house, "x")
            for guess in guesses_of(house):
                self.assertEqual(sent(told, guess), second_sent(house, guess))

    def test_not_as_many_names(self):
        house = of([box("a"), box("b")], [post("p")], [("take", "a", "p")])
        for boxes, posts in (
            ([], ["p"]), (["a"], ["p"]), (["a", "b", "c"], ["p"]), (["a", "b"], []), (["a", "b"], ["p", "q"]),
            ([], []), (["a"], ["p", "q"]), (["a", "a", "a"], ["p"]), (["a"] * 9, ["p"]), (["a", "b"], ["p"] * 7),
            (["a", "a"], []), (["a", "a"], ["p", "p"]),
        ):
            self.refused(NoName, renamed, house, boxes, posts)
        self.refused(NoName, renamed, NOTHING, ["a"], [])
        self.refused(NoName, renamed, NOTHING, [], ["a"])

    def test_no_names(self):
        house = of([box("a"), box("b")], [post("p"), post("q")], [("take", "a", "p")])
        for wrong in ("", "A", "a b", "abcdefghi", "a1", "-", "a\n", "x" * 1000):
            for at in range(4):
                names = ["k", "l", "m", "n"]
                names[at] = wrong
                self.refused(NoName, renamed, house, names[:2], names[2:])

    def test_names_twice(self):
        house = of([box("a"), box("b"), box("c")], [post("p"), post("q"), post("r")], [("take", "a", "p")])
        good = ["k", "l", "m"]
        for twice in (["k", "k", "m"], ["k", "l", "k"], ["k", "l", "l"], ["k", "k", "k"]):
            self.refused(Twice, renamed, house, twice, good)
            self.refused(Twice, renamed, house, good, twice)
        self.assertEqual([each[0] for part in renamed(house, good, good)[:2] for each in part], good + good)

    def test_box_by_box_then_post_by_post(self):
        house = of([box("a"), box("b"), box("c")], [post("p"), post("q")], [("take", "a", "p")])
        self.refused(Twice, renamed, house, ["k", "k", "L"], ["p", "q"])
        self.refused(NoName, renamed, house, ["k", "L", "k"], ["p", "q"])
        self.refused(NoName, renamed, house, ["L", "L", "k"], ["p", "q"])
        self.refused(Twice, renamed, house, ["k", "l", "k"], ["P", "q"])
        self.refused(NoName, renamed, house, ["k", "l", "K"], ["p", "p"])
        self.refused(NoName, renamed, house, ["k", "l", "m"], ["P", "P"])

    def test_the_lists_handed_in_stay(self):
        house = of([box("a"), box("b")], [post("p")], [("take", "a", "p")])
        for boxes, posts in (
            (["k", "l"], ["m"]), (["k"], ["m"]), (["k", "l"], []), (["k", "k"], ["m"]), (["k", "L"], ["m"]),
            (["k", "l"], ["M"]),
        ):
            kept = (list(boxes), list(posts))
            try:
                told = renamed(house, boxes, posts)
            except (NoName, Twice):
                told = None
            self.assertEqual((boxes, posts), kept)
            if told is not None:
                again = repr(told)
                boxes[0] = posts[0] = "other"
                self.assertEqual(repr(told), again)
        self.assertEqual(house, of([box("a"), box("b")], [post("p")], [("take", "a", "p")]))

    def test_at_the_bounds(self):
        names = ["abcdefgh"[:at] + "z" for at in range(8)]
        told = renamed(COUNTER, names, names[5:])
        self.assertEqual([each[0] for each in told[0]], names)
        self.assertEqual(rings(told), rings(COUNTER))


if __name__ == "__main__":
    unittest.main()
