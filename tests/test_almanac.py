"""Almanacs: points 10 and 11."""

import random
import unittest

from houses import COUNTER, LONG_ROAD, NOTHING, SHUT, SOME, HouseCase, guesses_of, mapped, no_guesses, second_sent
from yesterpost.almanac import Almanac
from yesterpost.errors import NoCount, NoGuess
from yesterpost.guesses import guess_at, number_of
from yesterpost.web import led

FAR = 10 ** 60 - 1
# 0 and 1 lead to 3, 2 to 4; 3, 5, 4 are a ring; 6 leads to 8, 8 to 7, and 7 stays.
ROADS = mapped((3, 3, 4, 5, 3, 4, 8, 7, 7))
HOUSES = (NOTHING, SHUT, ROADS, mapped((1, 0)), mapped((0,)), *SOME[::3])


class AlmanacCase(HouseCase):
    def stands(self, almanac, day, guess):
        self.assertEqual((almanac.day(), almanac.today()), (day, guess))


class TestAtFirst(AlmanacCase):
    def test_day_0_and_the_first_guess(self):
        for house in HOUSES:
            for guess in guesses_of(house):
                almanac = Almanac(house, guess)
                self.stands(almanac, 0, guess)
                self.assertEqual((type(almanac.day()), type(almanac.today())), (int, tuple))

    def test_what_is_no_guess(self):
        for house in HOUSES:
            for wrong in no_guesses(house):
                self.refused(NoGuess, Almanac, house, wrong)


class TestMoves(AlmanacCase):
    def test_move_on(self):
        almanac = Almanac(ROADS, (0,))
        for day, letter in ((1, 3), (2, 5), (3, 4), (4, 3), (5, 5)):
            self.assertIsNone(almanac.move_on(1))
            self.stands(almanac, day, (letter,))
        almanac.move_on(3)
        self.stands(almanac, 8, (5,))
        almanac.move_on(0)
        self.stands(almanac, 8, (5,))
        almanac.move_on(10 ** 30)
        self.stands(almanac, 10 ** 30 + 8, (4,))

    def test_move_to(self):
        almanac = Almanac(ROADS, (6,))
        for day, letter in ((5, 7), (1, 8), (0, 6), (2, 7), (2, 7), (FAR, 7), (1, 8), (0, 6)):
            self.assertIsNone(almanac.move_to(day))
            self.stands(almanac, day, (letter,))

    def test_by_turns(self):
        almanac = Almanac(ROADS, (1,))
        almanac.move_to(2)
        almanac.move_on(2)
        self.stands(almanac, 4, (3,))
        almanac.move_to(1)
        almanac.move_on(1)
        self.stands(almanac, 2, (5,))
        almanac.move_to(0)
        self.stands(almanac, 0, (1,))
        almanac.move_on(1)
        self.stands(almanac, 1, (3,))

    def test_far_days(self):
        for house, guess in ((COUNTER, (1, 2, 3)), (LONG_ROAD, (1, 2, 3)), (LONG_ROAD, (0, 0, 0)), (ROADS, (2,))):
            almanac = Almanac(house, guess)
            for day in (FAR, FAR - 1, FAR - 255, FAR - 256, 10 ** 59, 255, 256, 257, 0):
                almanac.move_to(day)
                self.stands(almanac, day, led(house, guess, day))
            almanac.move_on(FAR)
            self.stands(almanac, FAR, led(house, guess, FAR))
        almanac = Almanac(COUNTER, (0, 0, 5))
        almanac.move_on(FAR - 3)
        self.assertEqual(number_of(COUNTER, almanac.today()), (FAR - 3 + 5) % 256)
        almanac.move_on(3)
        self.assertEqual(almanac.today(), guess_at(COUNTER, (FAR + 5) % 256))

    def test_as_told_a_second_time(self):
        chance = random.Random(11)
        for house in HOUSES:
            for guess in guesses_of(house)[:10]:
                way = [guess]
                for day in range(40):
                    way.append(second_sent(house, way[-1]))
                almanac = Almanac(house, guess)
                for time in range(10):
                    day = chance.randrange(41)
                    if day >= almanac.day() and chance.random() < 0.5:
                        almanac.move_on(day - almanac.day())
                    else:
                        almanac.move_to(day)
                    self.stands(almanac, day, way[day])

    def test_below_0(self):
        for days in (0, 1, 7, FAR):
            almanac = Almanac(ROADS, (0,))
            almanac.move_to(days)
            for wrong in (-1, -2, -days - 1, -FAR, -10 ** 6000):
                self.refused(NoCount, almanac.move_on, wrong)
                self.stands(almanac, days, led(ROADS, (0,), days))
                self.refused(NoCount, almanac.move_to, wrong)
                self.stands(almanac, days, led(ROADS, (0,), days))
            almanac.move_on(0)
            self.stands(almanac, days, led(ROADS, (0,), days))


class TestFirstAgain(AlmanacCase):
    def test_of_roads(self):
        wanted = {0: (1, 4), 2: (1, 4), 3: (0, 3), 4: (0, 3), 6: (2, 3), 7: (0, 1), 8: (1, 2)}
        for letter in wanted:
            self.assertEqual(Almanac(ROADS, (letter,)).first_again(), wanted[letter])

    def test_no_open_post(self):
        self.assertEqual(Almanac(NOTHING, ()).first_again(), (0, 1))
        self.assertEqual(Almanac(SHUT, ()).first_again(), (0, 1))

    def test_256_guesses(self):
        self.assertEqual(Almanac(COUNTER, (2, 3, 4)).first_again(), (0, 256))
        self.assertEqual(Almanac(LONG_ROAD, (0, 0, 0)).first_again(), (255, 256))
        self.assertEqual(Almanac(LONG_ROAD, (3, 7, 6)).first_again(), (1, 2))

    def test_whatever_day_it_stands_at(self):
        almanac = Almanac(ROADS, (0,))
        for day in (0, 1, 2, 5, FAR, 3, 0):
            almanac.move_to(day)
            self.assertEqual(almanac.first_again(), (1, 4))
            self.stands(almanac, day, led(ROADS, (0,), day))
        self.refused(NoCount, almanac.move_on, -1)
        self.assertEqual(almanac.first_again(), (1, 4))

    def test_as_defined(self):
        for house in HOUSES:
            for guess in guesses_of(house)[:10]:
                way = [guess]
                while len(set(way)) == len(way):
                    way.append(second_sent(house, way[-1]))
                told = Almanac(house, guess).first_again()
                self.assertEqual(told, (way.index(way[-1]), len(way) - 1))
                self.assertIs(type(told), tuple)


class TestTwoAlmanacs(AlmanacCase):
    def test_by_turns(self):
        one, other, third = Almanac(ROADS, (0,)), Almanac(ROADS, (0,)), Almanac(COUNTER, (0, 0, 0))
        one.move_on(2)
        self.stands(other, 0, (0,))
        other.move_on(1)
        third.move_to(100)
        self.stands(one, 2, (5,))
        one.move_to(0)
        self.stands(other, 1, (3,))
        self.stands(third, 100, guess_at(COUNTER, 100))
        self.refused(NoCount, one.move_to, -1)
        other.move_on(2)
        self.stands(one, 0, (0,))
        self.stands(other, 3, (4,))
        self.assertEqual([one.first_again(), other.first_again(), third.first_again()], [(1, 4), (1, 4), (0, 256)])


if __name__ == "__main__":
    unittest.main()
