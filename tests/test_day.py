"""A day under a guess: points 5, 6 and 7."""

import copy
from itertools import product
import unittest

from houses import (
    COUNTER, NOTHING, SHUT, SOME, HouseCase, crossed, guesses_of, mapped, no_guesses, second_sent, second_trace,
)
from yesterpost.day import sent, trace
from yesterpost.errors import NoGuess
from yesterpost.home import checked

BOXES = (("a", 3, 0), ("b", 9, 7), ("c", 2, 1), ("z", 1, 0))
WAYS = ("on", "back", "held")


class DayCase(HouseCase):
    def holds(self, row, number, boxes=BOXES):
        """That the row's box holds the number behind the row, and all others what they held."""
        wanted = tuple(number if name == row[1] else start for name, size, start in boxes)
        starts = tuple(start for name, size, start in boxes)
        told = trace(checked(list(boxes), [], [row]), ())
        self.assertEqual(told, [(starts, ()), (wanted, ())], row)


class TestWords(DayCase):
    def test_set(self):
        for number in range(3):
            self.holds(("set", "a", number), number)
        for number in range(9):
            self.holds(("set", "b", number), number)
        self.holds(("set", "z", 0), 0)

    def test_copy(self):
        self.holds(("copy", "a", "b"), 2)
        self.holds(("copy", "c", "b"), 1)
        self.holds(("copy", "z", "b"), 0)
        self.holds(("copy", "b", "c"), 1)
        self.holds(("copy", "b", "a"), 0)

    def test_least(self):
        self.holds(("least", "a", "b", "c"), 1)
        self.holds(("least", "a", "c", "b"), 1)
        self.holds(("least", "c", "b", "b"), 1)
        self.holds(("least", "b", "b", "z"), 0)

    def test_most(self):
        self.holds(("most", "a", "b", "c"), 2)
        self.holds(("most", "b", "c", "b"), 7)
        self.holds(("most", "b", "c", "a"), 1)
        self.holds(("most", "z", "b", "b"), 0)

    def test_sum(self):
        self.holds(("sum", "c", "b", "c"), 0)
        self.holds(("sum", "b", "b", "b"), 5)
        self.holds(("sum", "a", "b", "z"), 1)
        self.holds(("sum", "a", "b", "c"), 2)
        self.holds(("sum", "z", "b", "c"), 0)

    def test_pick(self):
        self.holds(("pick", "b", "z", "c", "b"), 1)
        self.holds(("pick", "b", "c", "z", "b"), 7)
        self.holds(("pick", "b", "b", "z", "c"), 1)
        self.holds(("pick", "a", "z", "b", "c"), 2)
        self.holds(("pick", "a", "c", "z", "b"), 2)

    def test_every_number_with_every_size(self):
        for size, one, other in product(range(1, 10), range(9), range(9)):
            boxes = (("to", size, 0), ("one", 9, one), ("other", 9, other))
            last = size - 1
            self.holds(("copy", "to", "one"), min(one, last), boxes)
            self.holds(("least", "to", "one", "other"), min(one, other, last), boxes)
            self.holds(("most", "to", "one", "other"), min(max(one, other), last), boxes)
            self.holds(("sum", "to", "one", "other"), (one + other) % size, boxes)

    def test_every_test_of_a_pick(self):
        for test, size in product(range(9), range(1, 10)):
            boxes = (("to", size, size - 1), ("test", 9, test), ("one", 9, 3), ("other", 9, 6))
            self.holds(("pick", "to", "test", "one", "other"), min(6 if test else 3, size - 1), boxes)

    def test_turn(self):
        for size in range(1, 10):
            table = tuple((3 * place + 1) % size for place in range(size))
            for start in range(size):
                self.holds(("turn", "to", table), table[start], (("to", size, start), ("more", 9, 8)))
        self.holds(("turn", "to", (2, 2, 0)), 0, (("to", 3, 2),))
        self.holds(("turn", "to", (2, 2, 0)), 2, (("to", 3, 0),))

    def test_one_box_at_several_places(self):
        self.holds(("copy", "b", "b"), 7)
        self.holds(("least", "b", "b", "c"), 1)
        self.holds(("least", "c", "b", "c"), 1)
        self.holds(("most", "c", "c", "z"), 1)
        self.holds(("most", "b", "b", "b"), 7)
        self.holds(("sum", "b", "c", "b"), 8)
        self.holds(("sum", "c", "c", "c"), 0)
        self.holds(("pick", "b", "b", "z", "b"), 7)
        self.holds(("pick", "a", "a", "b", "a"), 2)
        self.holds(("pick", "b", "b", "b", "b"), 7)
        self.holds(("pick", "c", "c", "z", "c"), 1)


class TestSend(DayCase):
    def test_to_a_post_of_each_way(self):
        for size, number in product(range(1, 10), range(9)):
            for way, wanted in (("on", min(number, size - 1)), ("back", min(number, size - 1)), ("held", 0)):
                house = checked([("a", 9, number)], [("p", size, way, 0)], [("send", "p", "a")])
                guess = (0,) if way == "back" else ()
                self.assertEqual(trace(house, guess), [((number,), (0,)), ((number,), (wanted,))])

    def test_a_held_post_bears_its_own_letter(self):
        house = checked(
            [("a", 9, 1), ("b", 9, 0)], [("p", 5, "held", 4)],
            [("send", "p", "a"), ("take", "b", "p"), ("send", "p", "b")],
        )
        self.assertEqual(trace(house, ()), [((1, 0), (4,)), ((1, 0), (4,)), ((1, 4), (4,)), ((1, 4), (4,))])

    def test_the_last_one_sent_is_borne(self):
        for way, guess in (("on", ()), ("back", (0,))):
            house = checked(
                [("a", 4, 1)], [("p", 4, way, 3)],
                [("send", "p", "a"), ("set", "a", 2), ("send", "p", "a"), ("set", "a", 0)],
            )
            self.assertEqual([letters for numbers, letters in trace(house, guess)], [(3,), (1,), (1,), (2,), (2,)])

    def test_just_the_post_told_is_changed(self):
        posts = [("p", 2, "on", 1), ("a", 2, "back", 1), ("r", 2, "on", 1)]
        for at, name in enumerate("par"):
            house = checked([("a", 2, 0), ("r", 2, 1)], posts, [("send", name, "a")])
            self.assertEqual(trace(house, (1,))[1], ((0, 1), tuple(int(place != at) for place in range(3))))


class TestTake(DayCase):
    def numbers(self, way, guess, size=5):
        """What is taken ahead of, between and behind two sends to a post that bears 3 at first."""
        boxes = [("to", size, 0), ("one", 9, 1), ("two", 9, 2)]
        take = ("take", "to", "p")
        rows = [take, ("send", "p", "one"), ("set", "to", 0), take, ("send", "p", "two"), ("set", "to", 0), take]
        told = trace(checked(boxes, [("p", 5, way, 3)], rows), guess)
        return [told[at][0][0] for at in (1, 4, 7)]

    def test_on(self):
        self.assertEqual(self.numbers("on", ()), [3, 1, 2])

    def test_held(self):
        self.assertEqual(self.numbers("held", ()), [3, 3, 3])

    def test_back(self):
        for letter in range(5):
            self.assertEqual(self.numbers("back", (letter,)), [letter] * 3)

    def test_fitted_to_the_box(self):
        for size in range(1, 10):
            last = size - 1
            self.assertEqual(self.numbers("on", (), size), [min(3, last), min(1, last), min(2, last)])
            self.assertEqual(self.numbers("held", (), size), [min(3, last)] * 3)
            self.assertEqual(self.numbers("back", (4,), size), [min(4, last)] * 3)

    def test_each_open_post_has_its_own_letter_of_the_guess(self):
        posts = [("x", 2, "on", 1), ("a", 4, "back", 0), ("y", 2, "held", 1), ("b", 4, "back", 0), ("c", 4, "back", 0)]
        boxes = [("c", 4, 0), ("b", 4, 0), ("a", 4, 0)]
        house = checked(boxes, posts, [("take", name, name) for name in "abc"])
        self.assertEqual(trace(house, (3, 1, 2))[-1], ((2, 1, 3), (1, 0, 1, 0, 0)))

    def test_taking_changes_no_post(self):
        for way in WAYS:
            house = checked([("a", 3, 0)], [("p", 3, way, 1)], [("take", "a", "p")])
            self.assertEqual(trace(house, (2,) if way == "back" else ())[1][1], (1,))


class TestTrace(DayCase):
    def test_a_day_told_in_full(self):
        house = checked(
            [("hand", 4, 1), ("sack", 9, 6), ("flag", 2, 0)],
            [("noon", 4, "back", 2), ("eve", 3, "on", 1), ("old", 5, "held", 4)],
            [
                ("take", "hand", "noon"), ("sum", "sack", "sack", "hand"), ("send", "eve", "sack"),
                ("take", "flag", "eve"), ("pick", "hand", "flag", "sack", "hand"), ("turn", "hand", (3, 2, 1, 0)),
                ("send", "noon", "hand"), ("send", "old", "flag"), ("take", "sack", "old"),
            ],
        )
        self.assertEqual(trace(house, (3,)), [
            ((1, 6, 0), (2, 1, 4)),
            ((3, 6, 0), (2, 1, 4)),
            ((3, 0, 0), (2, 1, 4)),
            ((3, 0, 0), (2, 0, 4)),
            ((3, 0, 0), (2, 0, 4)),
            ((0, 0, 0), (2, 0, 4)),
            ((3, 0, 0), (2, 0, 4)),
            ((3, 0, 0), (3, 0, 4)),
            ((3, 0, 0), (3, 0, 4)),
            ((3, 4, 0), (3, 0, 4)),
        ])
        self.assertEqual(trace(house, (2,))[-1], ((1, 4, 1), (1, 2, 4)))
        self.assertEqual([sent(house, (letter,)) for letter in range(4)], [(3,), (2,), (1,), (3,)])

    def test_no_rows(self):
        house = checked([("a", 3, 2)], [("p", 2, "back", 1), ("q", 2, "on", 0)], [])
        self.assertEqual(trace(house, (0,)), [((2,), (1, 0))])
        self.assertEqual(trace(house, (1,)), [((2,), (1, 0))])

    def test_no_boxes(self):
        self.assertEqual(trace(checked([], [("p", 2, "back", 1)], []), (0,)), [((), (1,))])

    def test_no_posts(self):
        house = checked([("a", 3, 2)], [], [("turn", "a", (1, 1, 0)), ("set", "a", 1)])
        self.assertEqual(trace(house, ()), [((2,), ()), ((0,), ()), ((1,), ())])

    def test_nothing(self):
        self.assertEqual(trace(NOTHING, ()), [((), ())])

    def test_no_open_post(self):
        self.assertEqual(
            trace(SHUT, ()), [((2, 0), (1, 3)), ((2, 1), (1, 3)), ((2, 1), (2, 3)), ((2, 1), (2, 3)), ((2, 1), (2, 3))],
        )

    def test_kinds_and_length(self):
        for house in (NOTHING, SHUT, COUNTER, *SOME):
            told = trace(house, guesses_of(house)[-1])
            self.assertIs(type(told), list)
            self.assertEqual(len(told), len(house[2]) + 1)
            for pair in told:
                self.assertEqual([type(pair), *map(type, pair)], [tuple] * 3)
                self.assertEqual({type(number) for part in pair for number in part} - {int}, set())

    def test_told_again_where_the_list_was_changed(self):
        for house in (NOTHING, SHUT, COUNTER):
            self.told_anew(trace, house, guesses_of(house)[-1])

    def test_two_guesses_by_turns(self):
        house = mapped((1, 2, 3, 0))
        first, second = trace(house, (1,)), trace(house, (3,))
        self.assertNotEqual(first, second)
        self.assertEqual((trace(house, (1,)), trace(house, (3,))), (first, second))

    def test_as_told_a_second_time(self):
        for house in (COUNTER, *SOME):
            for guess in guesses_of(house):
                self.assertEqual(trace(house, guess), second_trace(house, guess), (house, guess))

    def test_forty_rows(self):
        for rows, wanted in (([("sum", "a", "a", "b")] * 40, 4), ([("send", "p", "b"), ("take", "a", "p")] * 20, 1)):
            house = checked([("a", 9, 0), ("b", 9, 1)], [("p", 9, "on", 0)], rows)
            told = trace(house, ())
            self.assertEqual(len(told), 41)
            self.assertEqual(told[-1][0], (wanted, 1))

    def test_what_is_no_guess(self):
        for house in (NOTHING, SHUT, COUNTER, mapped((0,)), *SOME):
            for wrong in no_guesses(house):
                self.refused(NoGuess, trace, house, wrong)


class TestSent(DayCase):
    def test_no_open_post(self):
        self.assertEqual(sent(NOTHING, ()), ())
        self.assertEqual(sent(SHUT, ()), ())

    def test_one_open_post(self):
        house = mapped((2, 0, 0, 1))
        self.assertEqual([sent(house, (letter,)) for letter in range(4)], [(2,), (0,), (0,), (1,)])

    def test_each_open_post_in_its_order(self):
        house = crossed((2, 1, 0), (1, 0, 2, 0))
        self.assertEqual(sent(house, (0, 0)), (2, 1))
        self.assertEqual(sent(house, (2, 1)), (1, 2))
        self.assertEqual(sent(house, (3, 2)), (0, 0))

    def test_just_the_open_posts(self):
        posts = [("x", 3, "on", 2), ("p", 3, "back", 0), ("y", 3, "held", 1), ("q", 3, "back", 0), ("v", 3, "on", 0)]
        rows = [("send", name, "a") for name in "xyv"] + [("send", "p", "b")]
        house = checked([("a", 3, 1), ("b", 3, 2)], posts, rows)
        self.assertEqual({sent(house, guess) for guess in guesses_of(house)}, {(2, 0)})

    def test_where_nothing_is_sent_the_post_bears_its_letter(self):
        house = checked([("a", 3, 0)], [("p", 3, "back", 1), ("q", 2, "back", 0)], [("take", "a", "p")])
        self.assertEqual({sent(house, guess) for guess in guesses_of(house)}, {(1, 0)})

    def test_letters_at_the_end_of_the_day(self):
        house = checked(
            [("a", 3, 2), ("b", 3, 1)], [("p", 3, "back", 0)],
            [("send", "p", "a"), ("send", "p", "b"), ("copy", "b", "a")],
        )
        self.assertEqual(sent(house, (0,)), (1,))

    def test_size_1(self):
        self.assertEqual(sent(mapped((0,)), (0,)), (0,))
        posts = [("p", 1, "back", 0), ("q", 9, "back", 0)]
        self.assertEqual(sent(checked([("a", 9, 8)], posts, [("send", "p", "a"), ("send", "q", "a")]), (0, 3)), (0, 8))

    def test_two_guesses_by_turns(self):
        house = crossed((1, 2, 0), (2, 0, 1))
        for time in range(3):
            self.assertEqual(sent(house, (0, 1)), (2, 2))
            self.assertEqual(sent(house, (2, 0)), (1, 1))

    def test_256_guesses(self):
        guesses = guesses_of(COUNTER)
        self.assertEqual(len(guesses), 256)
        self.assertEqual([sent(COUNTER, guess) for guess in guesses], guesses[1:] + guesses[:1])

    def test_as_told_a_second_time(self):
        for house in SOME:
            for guess in guesses_of(house):
                letters = sent(house, guess)
                self.assertIs(type(letters), tuple)
                self.assertEqual(letters, second_sent(house, guess), (house, guess))

    def test_what_is_no_guess(self):
        for house in (NOTHING, SHUT, COUNTER, mapped((0,)), *SOME):
            for wrong in no_guesses(house):
                self.refused(NoGuess, sent, house, wrong)

    def test_an_equal_house_answers_alike_and_stays(self):
        for house in SOME[:20]:
            other = copy.deepcopy(house)
            guess = guesses_of(house)[-1]
            self.assertEqual(sent(other, guess), sent(house, guess))
            self.assertEqual(trace(other, guess), trace(house, guess))
            self.assertEqual(other, house)


if __name__ == "__main__":
    unittest.main()
