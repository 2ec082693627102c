"""Claims: point 23."""

import copy
import random
import unittest

from houses import (
    COUNTER, LONG_ROAD, NOTHING, SHUT, SOME, SOME_GREAT, HouseCase, crossed, guesses_of, mapped, no_guesses,
    second_sent,
)
from yesterpost.claims import upheld
from yesterpost.mixes import of_weights
from yesterpost.settle import settlings
from yesterpost.web import rings

# Three rings, (0,) (1,) (2,), (3,) (4,) and (5,); 6 leads to 3, 7 to 0, 8 to 7.
WEB = mapped((1, 2, 0, 4, 3, 5, 3, 0, 7))
# Two posts: (0, 0) and (1, 1) settle, (0, 1) and (1, 0) are a ring.
SWAP = crossed((0, 1), (0, 1))
HOUSES = (NOTHING, SHUT, WEB, SWAP, mapped((1, 2, 0)), *SOME[::5])


def ones(*letters):
    return [(letter,) for letter in letters]


class ClaimCase(HouseCase):
    def so(self, house, *claim):
        self.assertIs(upheld(house, claim), True, claim)

    def not_so(self, house, *claim):
        self.assertIs(upheld(house, claim), False, claim)


class TestSettles(ClaimCase):
    def test_so(self):
        self.so(NOTHING, "settles", ())
        self.so(SHUT, "settles", ())
        self.so(WEB, "settles", (5,))
        self.so(SWAP, "settles", (0, 0))
        self.so(SWAP, "settles", (1, 1))
        self.so(LONG_ROAD, "settles", (3, 7, 7))

    def test_not_so(self):
        for letter in (0, 1, 2, 3, 4, 6, 7, 8):
            self.not_so(WEB, "settles", (letter,))
        self.not_so(SWAP, "settles", (0, 1))
        self.not_so(COUNTER, "settles", (3, 7, 7))

    def test_no_guesses(self):
        for house in HOUSES:
            for wrong in no_guesses(house):
                self.not_so(house, "settles", wrong)

    def test_as_told_a_second_time(self):
        for house in HOUSES:
            for guess in guesses_of(house):
                self.assertIs(upheld(house, ("settles", guess)), second_sent(house, guess) == guess)


class TestRoad(ClaimCase):
    def test_one_guess(self):
        self.so(NOTHING, "road", [()])
        for letter in range(9):
            self.so(WEB, "road", ones(letter))

    def test_several(self):
        self.so(WEB, "road", ones(8, 7, 0, 1, 2))
        self.so(WEB, "road", ones(6, 3))
        self.so(WEB, "road", ones(2, 0))
        self.so(SWAP, "road", [(1, 0), (0, 1)])

    def test_a_guess_twice(self):
        self.so(WEB, "road", ones(5, 5, 5))
        self.so(WEB, "road", ones(6, 3, 4, 3, 4, 3))
        self.so(NOTHING, "road", [()] * 100)

    def test_a_wrong_step(self):
        self.not_so(WEB, "road", ones(0, 2))
        self.not_so(WEB, "road", ones(0, 0))
        self.not_so(WEB, "road", ones(7, 8))
        self.not_so(WEB, "road", ones(8, 0, 1))
        self.not_so(WEB, "road", ones(8, 7, 0, 1, 2, 1))
        self.not_so(WEB, "road", ones(8, 7, 1, 2, 0))
        self.not_so(WEB, "road", ones(7, 7, 0, 1, 2))

    def test_without_guesses(self):
        for house in HOUSES:
            self.not_so(house, "road", [])

    def test_no_guess_at_any_place(self):
        way = ones(8, 7, 0, 1, 2)
        for wrong in no_guesses(WEB):
            self.not_so(WEB, "road", [wrong])
            for at in range(5):
                self.not_so(WEB, "road", way[:at] + [wrong] + way[at + 1:])
                self.not_so(WEB, "road", way[:at] + [wrong] + way[at:])
            self.not_so(WEB, "road", way + [wrong])

    def test_as_told_a_second_time(self):
        chance = random.Random(23)
        told = set()
        for house in HOUSES:
            for guess in guesses_of(house)[:20]:
                way = [guess]
                for time in range(5):
                    way.append(second_sent(house, way[-1]))
                self.so(house, "road", way)
                way[chance.randrange(6)] = chance.choice(guesses_of(house))
                wanted = all(second_sent(house, one) == other for one, other in zip(way, way[1:]))
                self.assertIs(upheld(house, ("road", way)), wanted)
                told.add(wanted)
        self.assertEqual(told, {True, False})


class TestRing(ClaimCase):
    def test_one_guess(self):
        self.so(NOTHING, "ring", [()])
        self.so(WEB, "ring", ones(5))
        for letter in (0, 1, 2, 3, 4, 6, 7, 8):
            self.not_so(WEB, "ring", ones(letter))

    def test_begun_at_any_of_its_guesses(self):
        for letters in ((0, 1, 2), (1, 2, 0), (2, 0, 1), (3, 4), (4, 3)):
            self.so(WEB, "ring", ones(*letters))
        self.so(SWAP, "ring", [(0, 1), (1, 0)])
        self.so(SWAP, "ring", [(1, 0), (0, 1)])

    def test_not_led_round(self):
        for letters in ((0, 2, 1), (2, 1, 0), (0, 1), (1, 2), (6, 3, 4), (8, 7, 0, 1, 2), (0, 1, 2, 3), (3, 4, 5)):
            self.not_so(WEB, "ring", ones(*letters))

    def test_a_guess_twice(self):
        for letters in ((5, 5), (0, 1, 2, 0), (0, 1, 2, 0, 1, 2), (3, 4, 3, 4), (3, 4, 3)):
            self.not_so(WEB, "ring", ones(*letters))
        self.not_so(NOTHING, "ring", [(), ()])

    def test_without_guesses(self):
        for house in HOUSES:
            self.not_so(house, "ring", [])

    def test_no_guess_at_any_place(self):
        for wrong in no_guesses(WEB):
            self.not_so(WEB, "ring", [wrong])
            for at in range(4):
                self.not_so(WEB, "ring", ones(0, 1, 2)[:at] + [wrong] + ones(0, 1, 2)[at:])
                self.not_so(WEB, "ring", ones(0, 1, 2)[:at] + [wrong] + ones(0, 1, 2)[at + 1:])

    def test_all_rings_of_houses(self):
        for house in HOUSES + (COUNTER, LONG_ROAD) + tuple(SOME_GREAT[:3]):
            for ring in rings(house):
                for at in {0, 1, len(ring) // 2, len(ring) - 1}:
                    self.so(house, "ring", ring[at:] + ring[:at])
                self.not_so(house, "ring", ring + ring)
                if len(ring) > 1:
                    self.not_so(house, "ring", ring[1:])
                if len(ring) > 2:
                    self.not_so(house, "ring", ring[::-1])


class TestNone(ClaimCase):
    def test_so(self):
        self.so(mapped((1, 2, 0)), "none")
        self.so(COUNTER, "none")

    def test_not_so(self):
        for house in (NOTHING, SHUT, WEB, SWAP, LONG_ROAD, mapped((1, 0, 2)), mapped((0, 0))):
            self.not_so(house, "none")

    def test_as_told(self):
        told = set()
        for house in HOUSES:
            self.assertIs(upheld(house, ("none",)), len(settlings(house)) == 0)
            told.add(upheld(house, ("none",)))
        self.assertEqual(told, {True, False})


class TestStays(ClaimCase):
    def test_so(self):
        self.so(NOTHING, "stays", [((), (1, 1))])
        self.so(WEB, "stays", [((5,), (1, 1))])
        self.so(WEB, "stays", [((4,), (1, 4)), ((5,), (-3, -6)), ((3,), (2, 8)), ((8,), (0, 7))])
        self.so(WEB, "stays", [((3,), (1, 6)), ((4,), (1, 2)), ((3,), (1, 3))])

    def test_not_so(self):
        self.not_so(WEB, "stays", [((3,), (1, 1))])
        self.not_so(WEB, "stays", [((3,), (1, 3)), ((4,), (2, 3))])
        self.not_so(WEB, "stays", [((8,), (1, 1))])
        self.not_so(WEB, "stays", [((3,), (1, 3)), ((4,), (1, 3)), ((6,), (1, 3))])

    def test_pairs_that_are_refused(self):
        self.not_so(WEB, "stays", [])
        self.not_so(WEB, "stays", [((5,), (1, 0))])
        self.not_so(WEB, "stays", [((5,), (1, 1)), ((5,), (0, 0))])
        self.not_so(WEB, "stays", [((5,), (-1, 1))])
        self.not_so(WEB, "stays", [((5,), (2, 1)), ((5,), (-1, 1))])
        self.not_so(WEB, "stays", [((5,), (1, 2))])
        self.not_so(WEB, "stays", [((5,), (3, 2))])
        self.not_so(NOTHING, "stays", [])

    def test_no_guess_at_any_place(self):
        for wrong in no_guesses(WEB):
            self.not_so(WEB, "stays", [(wrong, (1, 1))])
            self.not_so(WEB, "stays", [(wrong, (0, 1)), ((5,), (1, 1))])
            self.not_so(WEB, "stays", [((5,), (1, 1)), (wrong, (0, 1))])

    def test_made_of_weights(self):
        for house in HOUSES:
            many = len(rings(house))
            self.so(house, "stays", of_weights(house, [(1, many)] * many))


class TestWhatIsHandedIn(HouseCase):
    def test_stays(self):
        for claim in (
            ("road", ones(8, 7, 0)), ("road", ones(8, 0)), ("road", []), ("road", ones(8, 9)), ("ring", ones(1, 2, 0)),
            ("ring", ones(1, 2)), ("ring", []), ("ring", ones(0, 9)), ("stays", [((5,), (2, 4)), ((5,), (-1, -2))]),
            ("stays", [((9,), (1, 1))]), ("stays", [((5,), (2, 4))]), ("none",), ("settles", (5,)),
        ):
            kept = copy.deepcopy(claim)
            upheld(WEB, claim)
            upheld(WEB, claim)
            self.assertEqual(claim, kept)


if __name__ == "__main__":
    unittest.main()
