"""Guesses and their numbers: points 5 and 8."""

import unittest
from itertools import product

from yesterpost.errors import HouseError, NoGuess
from yesterpost.guesses import guess_at, how_many, number_of
from yesterpost.home import checked


def house_of(*posts):
    """A house with a post for each pair (size, way)."""
    return checked([], [("abcdef"[at], size, way, 0) for at, (size, way) in enumerate(posts)], [])


NOTHING = checked([], [], [])
SHUT = house_of((3, "on"), (4, "held"))
ONE = house_of((9, "back"))
MIXED = house_of((5, "on"), (2, "back"), (2, "held"), (3, "back"), (1, "back"), (4, "back"))
GREATEST = house_of((4, "back"), (8, "back"), (8, "back"))
HOUSES = (NOTHING, SHUT, ONE, MIXED, GREATEST)


def open_sizes(house):
    return [size for name, size, way, letter in house[1] if way == "back"]


class GuessCase(unittest.TestCase):
    def refused(self, ask, house, what):
        with self.assertRaises(HouseError) as caught:
            ask(house, what)
        self.assertIs(type(caught.exception), NoGuess)
        self.assertIsInstance(caught.exception, ValueError)


class TestCount(GuessCase):
    def test_how_many(self):
        self.assertEqual([how_many(house) for house in HOUSES], [1, 1, 9, 24, 256])

    def test_posts_of_size_1(self):
        self.assertEqual(how_many(house_of((1, "back"), (1, "back"))), 1)

    def test_just_open_posts_count(self):
        self.assertEqual(how_many(house_of((3, "on"), (2, "back"), (5, "held"))), 2)


class TestNumbers(GuessCase):
    def test_no_open_post(self):
        for house in (NOTHING, SHUT):
            self.assertEqual(number_of(house, ()), 0)
            self.assertEqual(guess_at(house, 0), ())

    def test_the_first_open_post_counts_most(self):
        self.assertEqual(
            [guess_at(house_of((2, "back"), (7, "on"), (3, "back")), number) for number in range(6)],
            [(0, 0), (0, 1), (0, 2), (1, 0), (1, 1), (1, 2)],
        )
        self.assertEqual(number_of(MIXED, (1, 0, 0, 0)), 12)
        self.assertEqual(number_of(MIXED, (0, 1, 0, 0)), 4)
        self.assertEqual(number_of(MIXED, (0, 0, 0, 1)), 1)
        self.assertEqual(number_of(MIXED, (1, 2, 0, 3)), 23)

    def test_every_number_and_back_again(self):
        for house in HOUSES:
            guesses = list(product(*[range(size) for size in open_sizes(house)]))
            self.assertEqual([guess_at(house, number) for number in range(how_many(house))], guesses)
            self.assertEqual([number_of(house, guess) for guess in guesses], list(range(how_many(house))))

    def test_kinds_told(self):
        for house in HOUSES:
            guess = guess_at(house, 0)
            self.assertIs(type(guess), tuple)
            self.assertEqual({type(letter) for letter in guess} - {int}, set())
            self.assertIs(type(number_of(house, guess)), int)
            self.assertIs(type(how_many(house)), int)


class TestRefusals(GuessCase):
    def test_numbers_that_no_guess_has(self):
        for house in HOUSES:
            many = how_many(house)
            for number in (-1, -2, -many, many, many + 1, 2 * many, 10 ** 6000, -10 ** 6000):
                self.refused(guess_at, house, number)

    def test_a_letter_too_few(self):
        for house in (ONE, MIXED, GREATEST):
            guess = guess_at(house, 0)
            self.refused(number_of, house, guess[1:])
            self.refused(number_of, house, ())

    def test_a_letter_too_many(self):
        for house in HOUSES:
            for number in (0, how_many(house) - 1):
                guess = guess_at(house, number)
                self.refused(number_of, house, guess + (0,))
                self.refused(number_of, house, (0,) + guess)
                self.refused(number_of, house, guess + (0,) * 9)

    def test_a_letter_out_of_bounds(self):
        for house in (ONE, MIXED, GREATEST):
            for number in (0, how_many(house) - 1):
                guess = guess_at(house, number)
                for at, size in enumerate(open_sizes(house)):
                    for letter in (-1, -size, size, size + 1, 10 ** 6000, -10 ** 6000):
                        self.refused(number_of, house, guess[:at] + (letter,) + guess[at + 1:])

    def test_a_letter_for_each_post_where_not_all_are_open(self):
        self.refused(number_of, house_of((2, "back"), (2, "on")), (0, 0))
        self.refused(number_of, house_of((2, "back"), (2, "held")), (0, 0))
        self.refused(number_of, SHUT, (0, 0))

    def test_the_sizes_are_those_of_the_open_posts(self):
        house = house_of((7, "on"), (2, "back"), (6, "held"), (3, "back"))
        self.assertEqual(number_of(house, (1, 2)), 5)
        self.refused(number_of, house, (2, 2))
        self.refused(number_of, house, (1, 3))


if __name__ == "__main__":
    unittest.main()
