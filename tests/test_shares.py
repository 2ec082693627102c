"""Shares: point 14."""

import random
import unittest
from fractions import Fraction
from itertools import product

from houses import HouseCase
from yesterpost.errors import NoShare
from yesterpost.shares import plus, share, times

GREATEST = 10 ** 60 - 1
NUMBERS = (-GREATEST, -10 ** 30, -12, -3, -2, -1, 1, 2, 3, 8, 12, 10 ** 30, 6 ** 70, GREATEST)
PAIRS = [
    (0, 1), (0, -7), (0, 12), (1, 1), (-1, -1), (1, -1), (4, 6), (-4, 6), (4, -6), (-4, -6), (6, 4), (35, 5),
    (1, GREATEST), (GREATEST, 1), (GREATEST, -GREATEST), (-GREATEST + 1, GREATEST), (3 ** 120, -6 ** 70),
]


def told_of(fraction):
    return (fraction.numerator, fraction.denominator)


class TestShare(HouseCase):
    def test_lowest_terms(self):
        self.assertEqual(share(1, 2), (1, 2))
        self.assertEqual(share(2, 4), (1, 2))
        self.assertEqual(share(12, 8), (3, 2))
        self.assertEqual(share(8, 12), (2, 3))
        self.assertEqual(share(12, 4), (3, 1))
        self.assertEqual(share(7, 7), (1, 1))
        self.assertEqual(share(5, 1), (5, 1))
        self.assertEqual(share(35, 64), (35, 64))

    def test_nought(self):
        for bottom in NUMBERS:
            self.assertEqual(share(0, bottom), (0, 1))

    def test_tops_below_0(self):
        self.assertEqual(share(-1, 2), (-1, 2))
        self.assertEqual(share(-12, 8), (-3, 2))
        self.assertEqual(share(-8, 4), (-2, 1))

    def test_a_bottom_below_0_turns_both_signs(self):
        self.assertEqual(share(1, -2), (-1, 2))
        self.assertEqual(share(-1, -2), (1, 2))
        self.assertEqual(share(12, -8), (-3, 2))
        self.assertEqual(share(-12, -8), (3, 2))
        self.assertEqual(share(-4, -4), (1, 1))

    def test_sixty_figures(self):
        self.assertEqual(share(GREATEST, GREATEST), (1, 1))
        self.assertEqual(share(-GREATEST, GREATEST), (-1, 1))
        self.assertEqual(share(GREATEST, -3), (-(GREATEST // 3), 1))
        self.assertEqual(share(-3, -GREATEST), (1, GREATEST // 3))
        self.assertEqual(share(GREATEST, GREATEST - 1), (GREATEST, GREATEST - 1))
        self.assertEqual(share(2 * 10 ** 59, 10 ** 59), (2, 1))

    def test_as_fractions_tell(self):
        for top, bottom in product(NUMBERS, NUMBERS):
            told = share(top, bottom)
            self.assertEqual(told, told_of(Fraction(top, bottom)))
            self.assertEqual([type(told), *map(type, told)], [tuple, int, int])
        chance = random.Random(14)
        for time in range(300):
            common = chance.randint(1, 10 ** 30)
            top, bottom = common * chance.randint(-10 ** 30, 10 ** 30), common * chance.randint(1, 10 ** 30)
            self.assertEqual(share(top, bottom), told_of(Fraction(top, bottom)))
            self.assertEqual(share(top, -bottom), told_of(Fraction(-top, bottom)))

    def test_the_same_again_of_a_share(self):
        for top, bottom in PAIRS:
            told = share(top, bottom)
            self.assertEqual(share(*told), told)

    def test_a_bottom_of_0(self):
        for top in NUMBERS + (0,):
            self.refused(NoShare, share, top, 0)


class TestPlusAndTimes(HouseCase):
    def test_plus(self):
        self.assertEqual(plus((1, 2), (1, 3)), (5, 6))
        self.assertEqual(plus((1, 2), (1, 2)), (1, 1))
        self.assertEqual(plus((1, 6), (1, 3)), (1, 2))
        self.assertEqual(plus((1, 6), (-2, 3)), (-1, 2))
        self.assertEqual(plus((1, 2), (1, -2)), (0, 1))
        self.assertEqual(plus((0, 5), (0, -9)), (0, 1))
        self.assertEqual(plus((0, 5), (4, 6)), (2, 3))

    def test_times(self):
        self.assertEqual(times((1, 2), (1, 3)), (1, 6))
        self.assertEqual(times((2, 3), (3, 2)), (1, 1))
        self.assertEqual(times((2, 3), (3, 4)), (1, 2))
        self.assertEqual(times((2, -3), (3, 4)), (-1, 2))
        self.assertEqual(times((2, -3), (-3, 4)), (1, 2))
        self.assertEqual(times((0, -3), (5, 4)), (0, 1))
        self.assertEqual(times((7, 1), (0, 4)), (0, 1))

    def test_as_fractions_tell(self):
        for one, other in product(PAIRS, PAIRS):
            for ask, wanted in (
                (plus, Fraction(*one) + Fraction(*other)),
                (times, Fraction(*one) * Fraction(*other)),
            ):
                told = ask(one, other)
                self.assertEqual(told, told_of(wanted), (ask, one, other))
                self.assertEqual([type(told), *map(type, told)], [tuple, int, int])

    def test_shares_that_were_told(self):
        whole, product_so_far = Fraction(0), Fraction(1)
        summed, multiplied = (0, 1), (1, 1)
        for number in range(2, 60):
            one = share(10 ** 59 + number, 10 ** 59 - number)
            summed, multiplied = plus(summed, one), times(one, multiplied)
            whole, product_so_far = whole + Fraction(*one), product_so_far * Fraction(*one)
        self.assertEqual(summed, told_of(whole))
        self.assertEqual(multiplied, told_of(product_so_far))

    def test_a_bottom_of_0(self):
        for ask in (plus, times):
            for pair in PAIRS + [(5, 0), (0, 0)]:
                for wrong in ((1, 0), (0, 0), (-GREATEST, 0)):
                    self.refused(NoShare, ask, pair, wrong)
                    self.refused(NoShare, ask, wrong, pair)


if __name__ == "__main__":
    unittest.main()
