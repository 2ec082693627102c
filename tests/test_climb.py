"""Rising houses, climbs and descents: point 13."""

import unittest

from houses import (
    COUNTER, LONG_ROAD, NOTHING, SHUT, SOME, SOME_RISING, HouseCase, crossed, guesses_of, mapped, second_sent,
)
from yesterpost.climb import climb, descend, rises
from yesterpost.errors import NotRising
from yesterpost.home import checked

BOXES = [("a", 3, 1), ("b", 4, 2), ("z", 1, 0)]
POSTS = [("p", 3, "back", 2), ("q", 4, "on", 1), ("r", 2, "held", 1)]
RISING_ROWS = (
    ("set", "a", 2), ("copy", "a", "b"), ("least", "a", "b", "z"), ("most", "b", "a", "z"), ("send", "p", "a"),
    ("send", "q", "b"), ("send", "r", "b"), ("take", "a", "p"), ("take", "b", "q"), ("take", "z", "r"),
)
SUM, PICK = ("sum", "a", "b", "a"), ("pick", "a", "b", "a", "z")
UP = mapped((1, 2, 3, 4, 5, 6, 7, 8, 8))
DOWN = mapped((0, 0, 1, 2, 3, 4, 5, 6, 7))
# Two steps up from 0 to 2 and three down from 8 to 5; 3 and 4 lead to either side.
MIDDLE = mapped((1, 2, 2, 2, 5, 5, 5, 6, 7))


def house_of(*rows):
    return checked(BOXES, POSTS, list(rows))


def ones(letters):
    return [(letter,) for letter in letters]


class TestRises(HouseCase):
    def test_no_rows(self):
        self.assertIs(rises(NOTHING), True)
        self.assertIs(rises(house_of()), True)

    def test_each_word_without_a_table(self):
        for row in RISING_ROWS:
            self.assertIs(rises(house_of(row)), True)
        self.assertIs(rises(house_of(*RISING_ROWS)), True)

    def test_sum_and_pick(self):
        for row in (SUM, PICK, ("sum", "z", "z", "z"), ("pick", "z", "z", "z", "z"), ("pick", "a", "a", "a", "a")):
            self.assertIs(rises(house_of(row)), False)
            self.assertIs(rises(house_of(*RISING_ROWS, row)), False)
            self.assertIs(rises(house_of(row, *RISING_ROWS)), False)
            self.assertIs(rises(house_of(RISING_ROWS[0], row, RISING_ROWS[1])), False)

    def test_tables_that_stay_or_rise(self):
        for table in ((0, 0, 0), (2, 2, 2), (0, 1, 2), (0, 0, 2), (0, 2, 2), (1, 1, 2)):
            self.assertIs(rises(house_of(("turn", "a", table))), True)
        self.assertIs(rises(house_of(("turn", "z", (0,)))), True)
        self.assertIs(rises(mapped((0, 0, 1, 3, 3, 5, 8, 8, 8))), True)

    def test_tables_that_fall(self):
        for table in ((1, 0, 2), (0, 2, 1), (2, 1, 0), (1, 2, 0), (2, 0, 1), (2, 0, 2), (1, 1, 0), (1, 0, 0)):
            self.assertIs(rises(house_of(("turn", "a", table))), False)
            self.assertIs(rises(house_of(*RISING_ROWS, ("turn", "a", table))), False)
            self.assertIs(rises(house_of(("turn", "a", table), ("turn", "a", (0, 1, 2)))), False)
        for at in range(8):
            table = list(range(9))
            table[at], table[at + 1] = table[at + 1], table[at]
            self.assertIs(rises(mapped(table)), False)

    def test_a_row_that_nothing_sent_hears_of(self):
        self.assertIs(rises(checked([("a", 2, 0)], [], [("sum", "a", "a", "a")])), False)
        self.assertIs(rises(checked([("a", 2, 0)], [], [("turn", "a", (1, 0))])), False)

    def test_a_box_named_as_a_word(self):
        boxes = [("sum", 2, 0), ("pick", 2, 0), ("turn", 2, 0)]
        self.assertIs(rises(checked(boxes, [], [("copy", "sum", "pick"), ("set", "turn", 1)])), True)

    def test_other_houses(self):
        self.assertEqual({rises(house) for house in SOME_RISING}, {True})
        for house in SOME:
            falls = [
                row for row in house[2]
                if row[0] in ("sum", "pick") or row[0] == "turn" and any(a > b for a, b in zip(row[2], row[2][1:]))
            ]
            self.assertIs(rises(house), falls == [])


class TestClimbAndDescend(HouseCase):
    def test_no_open_post(self):
        self.assertEqual((climb(NOTHING), descend(NOTHING)), ([()], [()]))
        self.assertEqual((climb(SHUT), descend(SHUT)), ([()], [()]))

    def test_step_by_step(self):
        self.assertEqual((climb(UP), descend(UP)), (ones(range(9)), ones([8])))
        self.assertEqual((climb(DOWN), descend(DOWN)), (ones([0]), ones(range(8, -1, -1))))
        self.assertEqual((climb(MIDDLE), descend(MIDDLE)), (ones([0, 1, 2]), ones([8, 7, 6, 5])))

    def test_the_first_guess_settles_at_once(self):
        house = mapped((0, 1, 2))
        self.assertEqual((climb(house), descend(house)), (ones([0]), ones([2])))
        self.assertEqual((climb(mapped((0,))), descend(mapped((0,)))), (ones([0]), ones([0])))

    def test_great_steps(self):
        self.assertEqual((climb(mapped((3, 3, 3, 3))), descend(mapped((3, 3, 3, 3)))), (ones([0, 3]), ones([3])))
        self.assertEqual((climb(mapped((1, 1, 1, 1))), descend(mapped((1, 1, 1, 1)))), (ones([0, 1]), ones([3, 1])))

    def test_several_open_posts_of_different_sizes(self):
        house = crossed((0, 1, 2, 2), (1, 2, 3))
        self.assertEqual(climb(house), [(0, 0), (0, 1), (1, 1), (1, 2), (2, 2), (2, 3)])
        self.assertEqual(descend(house), [(2, 3)])
        house = crossed((0, 0, 1, 2), (0, 1, 2))
        self.assertEqual(climb(house), [(0, 0)])
        self.assertEqual(descend(house), [(2, 3), (2, 2), (1, 2), (1, 1), (0, 1), (0, 0)])

    def test_just_the_open_posts(self):
        house = house_of(("take", "a", "p"), ("turn", "a", (1, 2, 2)), ("send", "p", "a"), ("send", "q", "b"))
        self.assertEqual((climb(house), descend(house)), (ones([0, 1, 2]), ones([2])))

    def test_what_is_never_sent(self):
        house = checked([], [("p", 3, "back", 1), ("q", 4, "back", 2)], [])
        self.assertEqual((climb(house), descend(house)), ([(0, 0), (1, 2)], [(2, 3), (1, 2)]))

    def test_256_guesses_and_forty_rows(self):
        names, sizes = ("p", "q", "r", "s", "t"), (4, 8, 8, 1, 1)
        boxes = [(name, 9, 0) for name in names]
        posts = [(name, size, "back", 0) for name, size in zip(names, sizes)]
        steps = tuple(range(1, 9)) + (8,)
        rows = [("take", name, name) for name in names] + [("turn", name, steps) for name in names]
        rows += [("send", name, name) for name in names]
        house = checked(boxes, posts, rows + [("copy", "p", "p")] * 25)
        self.assertEqual((len(house[2]), len(guesses_of(house))), (40, 256))
        self.assertEqual(climb(house), [(min(day, 3), day, day, 0, 0) for day in range(8)])
        self.assertEqual(descend(house), [(3, 7, 7, 0, 0)])

    def test_as_defined(self):
        for house in (NOTHING, SHUT, UP, DOWN, MIDDLE, *SOME_RISING):
            guesses = guesses_of(house)
            settled = [guess for guess in guesses if second_sent(house, guess) == guess]
            for ask, first in ((climb, guesses[0]), (descend, guesses[-1])):
                told = ask(house)
                self.assertEqual(told[0], first)
                self.assertEqual([guess in settled for guess in told], [False] * (len(told) - 1) + [True])
                self.assertEqual(told[1:], [second_sent(house, guess) for guess in told[:-1]])
                self.assertEqual({type(guess) for guess in told}, {tuple})
            for guess in settled:
                self.assertTrue(all(one <= other for one, other in zip(climb(house)[-1], guess)))
                self.assertTrue(all(one >= other for one, other in zip(descend(house)[-1], guess)))

    def test_told_again_where_the_list_was_changed(self):
        for house in (NOTHING, UP, DOWN, MIDDLE):
            self.told_anew(climb, house)
            self.told_anew(descend, house)

    def test_houses_that_do_not_rise(self):
        wrong = [house for house in SOME if not rises(house)]
        self.assertGreater(len(wrong), 50)
        for house in (house_of(SUM), house_of(PICK), mapped((1, 0)), COUNTER, LONG_ROAD, *wrong):
            self.refused(NotRising, climb, house)
            self.refused(NotRising, descend, house)

    def test_refused_also_where_no_post_is_open_or_something_settles(self):
        for row in (("sum", "a", "a", "a"), ("pick", "a", "a", "a", "a"), ("turn", "a", (1, 0))):
            for posts in ([], [("p", 2, "back", 0)]):
                house = checked([("a", 2, 0)], posts, [row])
                self.refused(NotRising, climb, house)
                self.refused(NotRising, descend, house)


if __name__ == "__main__":
    unittest.main()
