"""Settling, quarrels and holds: points 7, 8 and 12."""

import unittest
from itertools import combinations, product

from houses import (
    COUNTER, LONG_ROAD, NOTHING, SHUT, SOME, HouseCase, crossed, guesses_of, mapped, no_guesses, second_sent,
)
from yesterpost.errors import NoGuess, NoPost, NoSize
from yesterpost.home import checked, open_names
from yesterpost.settle import fewest_holds, held, letters_seen, nearest, quarrels, settlings

# Each leads to the next one: nothing settles.
ROUND = mapped((1, 2, 0))
# (j, k) leads to (not k, j): nothing settles, and under each guess one post or both quarrel.
LIAR = crossed((1, 0), (0, 1))
# Three posts, each sending what another one told, the last one turned: nothing settles.
THREE = checked(
    [("a", 2, 0), ("b", 2, 0), ("c", 2, 0)],
    [("p", 2, "back", 0), ("x", 2, "on", 1), ("q", 2, "back", 0), ("r", 2, "back", 0)],
    [
        ("take", "a", "p"), ("take", "b", "q"), ("take", "c", "r"), ("turn", "c", (1, 0)),
        ("send", "p", "b"), ("send", "q", "a"), ("send", "r", "c"),
    ],
)


def apart(*tables):
    """A house with an open post for each table, by which it turns its own letter."""
    rows = []
    for name, table in zip("pqrs", tables):
        rows += [("take", name, name), ("turn", name, table), ("send", name, name)]
    sizes = list(zip("pqrs", map(len, tables)))
    return checked([(name, size, 0) for name, size in sizes], [(name, size, "back", 0) for name, size in sizes], rows)


# Each of two posts sends another letter than its own: both always quarrel.
APART = apart((1, 2, 0), (1, 0))
# Here all three do, or just the first and the last.
ALL_THREE = apart((1, 0), (2, 0, 1), (1, 0))
TWO_OF_THREE = apart((1, 0), (2, 1, 2), (3, 2, 1, 0))
POSTS = (("p", 3, "on", 1), ("q", 4, "back", 2), ("r", 2, "held", 0), ("s", 2, "back", 1))
EACH_WAY = checked(
    [("a", 3, 0), ("b", 9, 5)], list(POSTS), [("take", "a", "q"), ("send", "p", "a"), ("send", "s", "b")],
)
HOUSES = (NOTHING, SHUT, ROUND, LIAR, THREE, APART, ALL_THREE, TWO_OF_THREE, EACH_WAY, COUNTER, LONG_ROAD, *SOME)


def open_posts(house):
    return [post for post in house[1] if post[2] == "back"]


def second_quarrels(house, guess):
    letters = second_sent(house, guess)
    return [post[0] for post, one, other in zip(open_posts(house), guess, letters) if one != other]


class TestSettlings(HouseCase):
    def test_no_open_post(self):
        self.assertEqual(settlings(NOTHING), [()])
        self.assertEqual(settlings(SHUT), [()])

    def test_none(self):
        for house in (ROUND, LIAR, THREE, APART, COUNTER):
            self.assertEqual(settlings(house), [])

    def test_one(self):
        self.assertEqual(settlings(mapped((2, 0, 2))), [(2,)])
        self.assertEqual(settlings(mapped((0,))), [(0,)])
        self.assertEqual(settlings(LONG_ROAD), [(3, 7, 7)])

    def test_several_rising(self):
        self.assertEqual(settlings(mapped((0, 0, 2, 4, 4))), [(0,), (2,), (4,)])
        self.assertEqual(settlings(crossed((0, 1, 2), (0, 1, 2))), [(0, 0), (1, 1), (2, 2)])
        self.assertEqual(settlings(EACH_WAY), [(2, 1)])

    def test_as_told_a_second_time(self):
        for house in HOUSES:
            wanted = [guess for guess in guesses_of(house) if second_sent(house, guess) == guess]
            self.assertEqual(settlings(house), wanted, house)

    def test_told_again_where_the_list_was_changed(self):
        for house in (NOTHING, LONG_ROAD, EACH_WAY, mapped((0, 1, 2))):
            self.told_anew(settlings, house)


class TestQuarrels(HouseCase):
    def test_no_open_post(self):
        self.assertEqual(quarrels(NOTHING, ()), [])
        self.assertEqual(quarrels(SHUT, ()), [])

    def test_names_in_the_posts_order(self):
        self.assertEqual([quarrels(LIAR, guess) for guess in guesses_of(LIAR)], [["p"], ["q"], ["q"], ["p"]])
        self.assertEqual(quarrels(APART, (2, 1)), ["p", "q"])
        self.assertEqual(quarrels(THREE, (0, 0, 0)), ["r"])
        self.assertEqual(quarrels(THREE, (0, 1, 0)), ["p", "q", "r"])
        posts = [("z", 2, "back", 0), ("c", 2, "back", 0)]
        house = checked([("a", 2, 1)], posts, [("send", "c", "a"), ("send", "z", "a")])
        self.assertEqual(quarrels(house, (0, 0)), ["z", "c"])
        self.assertEqual(quarrels(house, (0, 1)), ["z"])

    def test_none_where_it_settles(self):
        self.assertEqual(quarrels(LONG_ROAD, (3, 7, 7)), [])
        self.assertEqual(quarrels(EACH_WAY, (2, 1)), [])

    def test_just_open_posts_quarrel(self):
        self.assertEqual(quarrels(EACH_WAY, (0, 0)), ["q", "s"])
        self.assertEqual(quarrels(EACH_WAY, (2, 0)), ["s"])

    def test_as_told_a_second_time(self):
        for house in HOUSES:
            for guess in guesses_of(house):
                self.assertEqual(quarrels(house, guess), second_quarrels(house, guess), (house, guess))

    def test_told_again_where_the_list_was_changed(self):
        self.told_anew(quarrels, APART, (2, 1))
        self.told_anew(quarrels, ROUND, (0,))

    def test_what_is_no_guess(self):
        for house in HOUSES:
            for wrong in no_guesses(house):
                self.refused(NoGuess, quarrels, house, wrong)


class TestNearest(HouseCase):
    def test_no_open_post(self):
        self.assertEqual(nearest(NOTHING), ())
        self.assertEqual(nearest(SHUT), ())

    def test_the_least_of_those_that_settle(self):
        self.assertEqual(nearest(mapped((1, 1, 2))), (1,))
        self.assertEqual(nearest(LONG_ROAD), (3, 7, 7))
        self.assertEqual(nearest(crossed((1, 1, 2), (0, 1, 2))), (1, 1))

    def test_the_least_where_all_quarrel_alike(self):
        self.assertEqual(nearest(ROUND), (0,))
        self.assertEqual(nearest(LIAR), (0, 0))
        self.assertEqual(nearest(APART), (0, 0))

    def test_the_least_of_those_under_which_the_fewest_quarrel(self):
        # Up to (0, 0, 6) just the last post quarrels; (0, 0, 7) leads to (0, 1, 0).
        self.assertEqual(nearest(COUNTER), (0, 0, 0))
        # (j, k) leads to (k + 1, j + 1), by the rest.
        house = crossed((1, 2, 0), (1, 2, 0))
        self.assertEqual([len(quarrels(house, guess)) for guess in guesses_of(house)], [2, 1, 1, 1, 2, 1, 1, 1, 2])
        self.assertEqual(nearest(house), (0, 1))

    def test_fewest_quarrels_behind_more_of_them(self):
        # Of (j, k), j is sent as it is where k is 2, and k is never sent as it is.
        house = checked(
            [("j", 3, 0), ("k", 3, 0), ("far", 3, 0)], [("p", 3, "back", 0), ("q", 3, "back", 0)],
            [
                ("take", "j", "p"), ("take", "k", "q"), ("copy", "far", "k"), ("turn", "far", (1, 1, 0)),
                ("sum", "j", "j", "far"), ("turn", "k", (1, 2, 0)), ("send", "p", "j"), ("send", "q", "k"),
            ],
        )
        self.assertEqual([len(quarrels(house, guess)) for guess in guesses_of(house)], [2, 2, 1] * 3)
        self.assertEqual(nearest(house), (0, 2))
        self.assertEqual(fewest_holds(house), [("q", 2)])

    def test_as_defined(self):
        for house in HOUSES:
            many = {guess: len(second_quarrels(house, guess)) for guess in guesses_of(house)}
            told = nearest(house)
            self.assertIs(type(told), tuple)
            self.assertEqual(told, [guess for guess in many if many[guess] == min(many.values())][0], house)


class TestFewestHolds(HouseCase):
    def test_none_where_something_settles(self):
        for house in (NOTHING, SHUT, LONG_ROAD, EACH_WAY, mapped((1, 1))):
            self.assertEqual(fewest_holds(house), [])

    def test_names_and_letters_in_the_posts_order(self):
        self.assertEqual(fewest_holds(ROUND), [("noon", 0)])
        self.assertEqual(fewest_holds(LIAR), [("p", 0)])
        self.assertEqual(fewest_holds(THREE), [("r", 0)])
        self.assertEqual(fewest_holds(APART), [("p", 0), ("q", 0)])
        self.assertEqual(fewest_holds(ALL_THREE), [("p", 0), ("q", 0), ("r", 0)])
        self.assertEqual(fewest_holds(TWO_OF_THREE), [("p", 0), ("r", 0)])
        self.assertEqual(fewest_holds(COUNTER), [("low", 0)])

    def test_letters_other_than_0(self):
        house = checked(
            [("a", 2, 0), ("b", 3, 0)], [("z", 2, "back", 0), ("c", 3, "back", 0), ("y", 2, "back", 0)],
            [
                ("take", "a", "z"), ("turn", "a", (1, 0)), ("send", "z", "a"), ("send", "y", "a"),
                ("take", "b", "c"), ("turn", "b", (1, 2, 2)), ("send", "c", "b"),
            ],
        )
        self.assertEqual(nearest(house), (0, 2, 1))
        self.assertEqual(fewest_holds(house), [("z", 0)])

    def test_kinds(self):
        for house in HOUSES:
            told = fewest_holds(house)
            self.assertIs(type(told), list)
            for pair in told:
                self.assertEqual([type(pair), *map(type, pair)], [tuple, str, int])

    def test_as_defined(self):
        for house in HOUSES:
            guess = nearest(house)
            letters = dict(zip(open_names(house), guess))
            self.assertEqual(fewest_holds(house), [(name, letters[name]) for name in second_quarrels(house, guess)])

    def test_with_just_these_held_something_settles(self):
        for house in HOUSES:
            self.assertNotEqual(settlings(held(house, fewest_holds(house))), [], house)

    def test_with_fewer_held_nothing_settles(self):
        tried = 0
        for house in (ROUND, LIAR, THREE, APART, ALL_THREE, TWO_OF_THREE, *SOME):
            for many in range(len(fewest_holds(house))):
                for posts in combinations(open_posts(house), many):
                    for letters in product(*[range(post[1]) for post in posts]):
                        holds = [(post[0], letter) for post, letter in zip(posts, letters)]
                        self.assertEqual(settlings(held(house, holds)), [], (house, holds))
                        tried += 1
        self.assertGreater(tried, 50)

    def test_told_again_where_the_list_was_changed(self):
        for house in (ROUND, APART, THREE):
            self.told_anew(fewest_holds, house)


class TestHeld(HouseCase):
    def test_posts_of_every_way(self):
        boxes, posts, rows = EACH_WAY
        for at, (name, size, way, letter) in enumerate(posts):
            for new in range(size):
                wanted = posts[:at] + ((name, size, "held", new),) + posts[at + 1:]
                self.assertEqual(held(EACH_WAY, [(name, new)]), (boxes, wanted, rows))

    def test_several(self):
        wanted = (("p", 3, "held", 0), ("q", 4, "held", 3), ("r", 2, "held", 1), ("s", 2, "back", 1))
        holds = [("r", 1), ("p", 0), ("q", 3)]
        self.assertEqual(held(EACH_WAY, holds), (EACH_WAY[0], wanted, EACH_WAY[2]))
        self.assertEqual(holds, [("r", 1), ("p", 0), ("q", 3)])

    def test_one_post_twice(self):
        self.assertEqual(held(EACH_WAY, [("q", 3), ("q", 1)]), held(EACH_WAY, [("q", 1)]))
        self.assertEqual(held(EACH_WAY, [("q", 3), ("p", 2), ("q", 0)])[1][1], ("q", 4, "held", 0))

    def test_no_holds(self):
        for house in HOUSES:
            self.assertEqual(held(house, []), house)

    def test_a_house_is_told(self):
        for house in HOUSES:
            told = held(house, [(post[0], post[1] - 1) for post in house[1]])
            self.assertEqual(told, checked(*[list(part) for part in told]))
            self.assertEqual([type(told), *map(type, told)], [tuple] * 4)
            self.assertEqual(open_names(told), [])
            self.assertEqual(settlings(told), [()])

    def test_a_day_with_a_held_post(self):
        self.assertEqual(settlings(held(ROUND, [("noon", 2)])), [()])
        self.assertEqual(settlings(held(LIAR, [("q", 1)])), [(0,)])
        self.assertEqual(settlings(held(LIAR, [("p", 1)])), [(1,)])

    def test_no_such_post(self):
        for name in ("", "P", "p ", "zz", "a", "b", "held", "p\n", "x" * 100):
            for letter in (0, 1, -1, 99, 10 ** 6000):
                self.refused(NoPost, held, EACH_WAY, [(name, letter)])
                self.refused(NoPost, held, NOTHING, [(name, letter)])
                self.refused(NoPost, held, EACH_WAY, [("p", 0), (name, letter)])

    def test_letters_out_of_bounds(self):
        for name, size, way, letter in POSTS:
            for wrong in (-1, -size, size, size + 1, 10 ** 6000, -10 ** 6000):
                self.refused(NoSize, held, EACH_WAY, [(name, wrong)])
                self.refused(NoSize, held, EACH_WAY, [("p", 0), (name, wrong), (name, 0)])

    def test_hold_by_hold(self):
        self.refused(NoSize, held, EACH_WAY, [("p", 3), ("zz", 0)])
        self.refused(NoPost, held, EACH_WAY, [("zz", 0), ("p", 3)])
        self.refused(NoSize, held, EACH_WAY, [("q", 0), ("p", 3), ("zz", 9)])
        self.refused(NoPost, held, EACH_WAY, [("q", 0), ("zz", 9), ("p", 3)])

    def test_what_is_handed_in_stays(self):
        for holds in ([("p", 0), ("q", 1)], [("p", 0), ("zz", 1)], [("p", 0), ("q", 4)], []):
            kept = list(holds)
            house = (EACH_WAY[0], tuple(POSTS), EACH_WAY[2])
            try:
                told = held(house, holds)
            except (NoPost, NoSize):
                told = None
            self.assertEqual(holds, kept)
            self.assertEqual(house, EACH_WAY)
            self.assertEqual(house[1], POSTS)
            if told is not None:
                again = repr(told)
                holds.append(("zz", 0))
                self.assertEqual(repr(told), again)


class TestLettersSeen(HouseCase):
    def test_no_open_post(self):
        self.assertEqual(letters_seen(NOTHING), [])
        self.assertEqual(letters_seen(SHUT), [])

    def test_nothing_settles(self):
        self.assertEqual(letters_seen(ROUND), [[]])
        self.assertEqual(letters_seen(LIAR), [[], []])
        self.assertEqual(letters_seen(COUNTER), [[], [], []])

    def test_one_settles(self):
        self.assertEqual(letters_seen(LONG_ROAD), [[3], [7], [7]])
        self.assertEqual(letters_seen(EACH_WAY), [[2], [1]])

    def test_several_settle(self):
        self.assertEqual(letters_seen(mapped((0, 0, 2, 4, 4, 5, 6, 7, 8))), [[0, 2, 4, 5, 6, 7, 8]])
        self.assertEqual(letters_seen(crossed((2, 1, 0), (2, 1, 0))), [[0, 1, 2], [0, 1, 2]])
        self.assertEqual(letters_seen(crossed((1, 1, 0, 2), (2, 1, 3))), [[0, 1, 2], [1, 2, 3]])

    def test_each_letter_once_in_each_list(self):
        # The second post sends what it is told, the first one always 1.
        house = checked(
            [("a", 2, 1), ("b", 3, 0)], [("p", 2, "back", 0), ("q", 3, "back", 0)],
            [("take", "b", "q"), ("send", "p", "a"), ("send", "q", "b")],
        )
        self.assertEqual(letters_seen(house), [[1], [0, 1, 2]])

    def test_as_defined(self):
        for house in HOUSES:
            settled = [guess for guess in guesses_of(house) if second_sent(house, guess) == guess]
            wanted = [
                [letter for letter in range(post[1]) if letter in [guess[at] for guess in settled]]
                for at, post in enumerate(open_posts(house))
            ]
            told = letters_seen(house)
            self.assertEqual(told, wanted, house)
            self.assertEqual({type(letters) for letters in told} - {list}, set())

    def test_told_again_where_the_lists_were_changed(self):
        self.told_anew(letters_seen, LONG_ROAD)
        self.told_anew(letters_seen, mapped((0, 1, 2)))
        told = letters_seen(LIAR)
        told[0].append(0)
        self.assertEqual(letters_seen(LIAR), [[], []])


if __name__ == "__main__":
    unittest.main()
