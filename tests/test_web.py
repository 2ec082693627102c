"""Rings, roads and many days: points 8, 9 and 10."""

import unittest
from itertools import product

from houses import (
    COUNTER, LONG_ROAD, NOTHING, SHUT, SOME, HouseCase, crossed, guesses_of, mapped, no_guesses, second_sent,
)
from yesterpost.errors import NoCount, NoGuess
from yesterpost.home import checked
from yesterpost.web import led, rings, road

FAR = 10 ** 60 - 1
# 0 and 1 lead to 3, 2 to 4; 3, 5, 4 are a ring; 6 leads to 8, 8 to 7, and 7 stays.
ROADS = mapped((3, 3, 4, 5, 3, 4, 8, 7, 7))
# The first walk comes to the ring of 3, but the ring of 1 and 2 is told first.
LATE = mapped((3, 2, 1, 3))


def ones(letters):
    """The guesses of one letter each."""
    return [(letter,) for letter in letters]


def second_rings(house):
    """The rings told once more: from each guess that comes back to itself and is the least on its way."""
    told = []
    for guess in guesses_of(house):
        way = [guess]
        while second_sent(house, way[-1]) not in way:
            way.append(second_sent(house, way[-1]))
        if second_sent(house, way[-1]) == guess == min(way):
            told.append(way)
    return told


class TestRings(HouseCase):
    def test_no_open_post(self):
        self.assertEqual(rings(NOTHING), [[()]])
        self.assertEqual(rings(SHUT), [[()]])

    def test_all_stay(self):
        self.assertEqual(rings(mapped((0, 1, 2))), [ones([0]), ones([1]), ones([2])])

    def test_size_1(self):
        self.assertEqual(rings(mapped((0,))), [ones([0])])

    def test_one_ring_begins_with_the_least_and_goes_as_it_leads(self):
        self.assertEqual(rings(mapped((1, 2, 0))), [ones([0, 1, 2])])
        self.assertEqual(rings(mapped((2, 0, 1))), [ones([0, 2, 1])])
        self.assertEqual(rings(mapped((4, 3, 1, 2, 4))), [ones([1, 3, 2]), ones([4])])

    def test_rings_with_roads_into_them(self):
        self.assertEqual(rings(ROADS), [ones([3, 5, 4]), ones([7])])
        self.assertEqual(rings(mapped((8,) * 9)), [ones([8])])

    def test_order_of_the_rings(self):
        self.assertEqual(rings(LATE), [ones([1, 2]), ones([3])])
        self.assertEqual(rings(mapped((5, 4, 3, 2, 1, 0))), [ones([0, 5]), ones([1, 4]), ones([2, 3])])

    def test_two_open_posts(self):
        self.assertEqual(rings(crossed((0, 1), (0, 1))), [[(0, 0)], [(0, 1), (1, 0)], [(1, 1)]])
        self.assertEqual(rings(crossed((1, 0), (0, 1))), [[(0, 0), (1, 0), (1, 1), (0, 1)]])

    def test_what_is_never_sent(self):
        house = checked([], [("p", 3, "back", 2), ("q", 2, "on", 0), ("r", 4, "back", 1)], [])
        self.assertEqual(rings(house), [[(2, 1)]])

    def test_256_guesses(self):
        self.assertEqual(rings(COUNTER), [guesses_of(COUNTER)])
        self.assertEqual(rings(LONG_ROAD), [[(3, 7, 7)]])
        posts = [(name, 4, "back", 0) for name in "pqrs"]
        rows = [("take", name, name) for name in "pqrs"] + [("send", name, name) for name in "pqrs"]
        house = checked([(name, 4, 0) for name in "pqrs"], posts, rows)
        self.assertEqual(rings(house), [[guess] for guess in guesses_of(house)])

    def test_every_web_of_four_guesses(self):
        for table in product(range(4), repeat=4):
            house = mapped(table)
            self.assertEqual(rings(house), second_rings(house), table)

    def test_other_houses(self):
        for house in SOME:
            told = rings(house)
            self.assertEqual(told, second_rings(house), house)
            self.assertEqual({type(ring) for ring in told}, {list})
            self.assertEqual({type(guess) for ring in told for guess in ring}, {tuple})

    def test_told_again_where_the_lists_were_changed(self):
        for house in (NOTHING, SHUT, ROADS, LATE, COUNTER):
            self.told_anew(rings, house)


class TestRoad(HouseCase):
    def test_every_guess_of_a_house(self):
        self.assertEqual([road(ROADS, guess) for guess in guesses_of(ROADS)], [
            (ones([0]), 0, 0),
            (ones([1]), 0, 0),
            (ones([2]), 0, 2),
            ([], 0, 0),
            ([], 0, 2),
            ([], 0, 1),
            (ones([6, 8]), 1, 0),
            ([], 1, 0),
            (ones([8]), 1, 0),
        ])

    def test_places_of_rings_are_by_their_order(self):
        self.assertEqual(
            [road(LATE, guess) for guess in guesses_of(LATE)], [(ones([0]), 1, 0), ([], 0, 0), ([], 0, 1), ([], 1, 0)],
        )

    def test_no_open_post(self):
        self.assertEqual(road(NOTHING, ()), ([], 0, 0))
        self.assertEqual(road(SHUT, ()), ([], 0, 0))

    def test_256_guesses(self):
        guesses = guesses_of(LONG_ROAD)
        for at in (0, 1, 100, 254, 255):
            self.assertEqual(road(LONG_ROAD, guesses[at]), (guesses[at:255], 0, 0))
            self.assertEqual(road(COUNTER, guesses[at]), ([], 0, at))

    def test_every_web_of_four_guesses(self):
        for table in product(range(4), repeat=4):
            self.as_defined(mapped(table))

    def test_other_houses(self):
        for house in SOME[60:140]:
            self.as_defined(house)

    def as_defined(self, house):
        told = second_rings(house)
        places = {guess: (at, place) for at, ring in enumerate(told) for place, guess in enumerate(ring)}
        for guess in guesses_of(house):
            answer = road(house, guess)
            self.assertEqual((type(answer), type(answer[0]), len(answer)), (tuple, list, 3))
            way = [guess]
            while way[-1] not in places:
                way.append(second_sent(house, way[-1]))
            self.assertEqual(answer, (way[:-1], *places[way[-1]]), (house, guess))

    def test_told_again_where_the_list_was_changed(self):
        told = road(ROADS, (6,))
        told[0].append((0,))
        told[0][0] = "other"
        self.assertEqual(road(ROADS, (6,)), (ones([6, 8]), 1, 0))
        told = road(ROADS, (7,))
        told[0].append((0,))
        self.assertEqual(road(ROADS, (7,)), ([], 1, 0))

    def test_what_is_no_guess(self):
        for house in (NOTHING, SHUT, ROADS, COUNTER, *SOME):
            for wrong in no_guesses(house):
                self.refused(NoGuess, road, house, wrong)


class TestLed(HouseCase):
    def test_no_day_and_one_day(self):
        for house in (NOTHING, SHUT, ROADS, LATE, *SOME[60:140]):
            for guess in guesses_of(house):
                self.assertEqual(led(house, guess, 0), guess)
                self.assertEqual(led(house, guess, 1), second_sent(house, guess))

    def test_small_counts(self):
        self.assertEqual([led(ROADS, (0,), many) for many in range(8)], ones([0, 3, 5, 4, 3, 5, 4, 3]))
        self.assertEqual([led(ROADS, (2,), many) for many in range(6)], ones([2, 4, 3, 5, 4, 3]))
        self.assertEqual([led(ROADS, (6,), many) for many in range(5)], ones([6, 8, 7, 7, 7]))

    def test_every_web_of_four_guesses(self):
        for table in product(range(4), repeat=4):
            house = mapped(table)
            for first in range(4):
                letter = first
                for many in range(14):
                    self.assertEqual(led(house, (first,), many), (letter,))
                    letter = table[letter]

    def test_great_counts(self):
        self.assertEqual(led(ROADS, (0,), FAR), ones([3, 5, 4])[(FAR - 1) % 3])
        self.assertEqual(led(ROADS, (0,), FAR - 1), ones([3, 5, 4])[(FAR - 2) % 3])
        self.assertEqual(led(ROADS, (6,), FAR), (7,))
        self.assertEqual(led(NOTHING, (), FAR), ())
        self.assertEqual(led(SHUT, (), FAR), ())

    def test_great_counts_with_256_guesses(self):
        guesses = guesses_of(COUNTER)
        for at in (0, 1, 255):
            for many in (255, 256, 257, 10 ** 9, 10 ** 30 + 7, FAR - 1, FAR):
                self.assertEqual(led(COUNTER, guesses[at], many), guesses[(at + many) % 256])
                self.assertEqual(led(LONG_ROAD, guesses[at], many), guesses[255])
        self.assertEqual([led(LONG_ROAD, guesses[0], many) for many in range(0, 256, 17)], guesses[::17])

    def test_a_count_is_led_on_by_another(self):
        for house in SOME[80:120]:
            for guess in guesses_of(house)[:5]:
                half = led(house, guess, FAR // 2)
                self.assertEqual(led(house, half, FAR - FAR // 2), led(house, guess, FAR))
                self.assertIs(type(half), tuple)

    def test_counts_below_0(self):
        for house in (NOTHING, SHUT, ROADS, COUNTER):
            for guess in (guesses_of(house)[0], guesses_of(house)[-1]):
                for many in (-1, -2, -256, -FAR, -10 ** 6000):
                    self.refused(NoCount, led, house, guess, many)

    def test_what_is_no_guess_comes_first(self):
        for house in (NOTHING, SHUT, ROADS, COUNTER):
            for wrong in no_guesses(house):
                for many in (-FAR, -1, 0, 1, FAR):
                    self.refused(NoGuess, led, house, wrong, many)


if __name__ == "__main__":
    unittest.main()
