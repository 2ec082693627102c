"""Mixtures and weights: points 15, 16 and 17."""

import copy
import random
import unittest
from fractions import Fraction
from itertools import product

from houses import (
    COUNTER, LONG_ROAD, NOTHING, SHUT, SOME, SOME_GREAT, HouseCase, crossed, guesses_of, mapped, no_guesses,
    second_sent,
)
from yesterpost.errors import NoGuess, NoMix, NoShare, NotStill
from yesterpost.home import checked
from yesterpost.mixes import long_run, mix, of_weights, sent_on, stays, weights_of
from yesterpost.shares import share
from yesterpost.web import rings, road

# Three rings, (0,) (1,) (2,), (3,) (4,) and (5,); 6 leads to 3, 7 to 0, 8 to 7.
WEB = mapped((1, 2, 0, 4, 3, 5, 3, 0, 7))
# Two posts: (0, 0) and (1, 1) settle, (0, 1) and (1, 0) are a ring.
SWAP = crossed((0, 1), (0, 1))
HOUSES = (NOTHING, SHUT, WEB, SWAP, mapped((0,)), mapped((1, 0)), mapped((8,) * 9), *SOME[::4])
OF_PAIRS = (mix, sent_on, long_run, stays, weights_of)
TURNED = ((1, 1), (-1, -1), (6, 6), (-10 ** 20, -10 ** 20))


def ones(**told):
    """The pairs of guesses of one letter and their shares: ones(a3="1/2") has (3,) with (1, 2)."""
    return [((int(name[1:]),), tuple(map(int, text.split("/")))) for name, text in told.items()]


def by_guess(pairs):
    """What each guess has in all, those with nothing left out."""
    shares = {}
    for guess, (top, bottom) in pairs:
        shares[guess] = shares.get(guess, 0) + Fraction(top, bottom)
    return {guess: part for guess, part in shares.items() if part}


def told_of(shares):
    """The mixture as it is to be told."""
    return [(guess, (shares[guess].numerator, shares[guess].denominator)) for guess in sorted(shares) if shares[guess]]


def second_sent_on(house, shares):
    moved = {}
    for guess, part in shares.items():
        moved[second_sent(house, guess)] = moved.get(second_sent(house, guess), 0) + part
    return moved


def second_long_run(house, shares):
    """The mean of what comes round behind as many days as there are guesses."""
    leads = {guess: second_sent(house, guess) for guess in guesses_of(house)}
    run = {}
    for guess, part in shares.items():
        for time in range(len(leads)):
            guess = leads[guess]
        ring = [guess]
        while leads[ring[-1]] != guess:
            ring.append(leads[ring[-1]])
        for one in ring:
            run[one] = run.get(one, 0) + part / len(ring)
    return run


def some_pairs(chance, guesses, many):
    """So many pairs, or one more, whose sum is 1: not in lowest terms, of turned signs, noughts among them."""
    tops = [chance.choice((0, 1, 2, 3, 60)) for time in range(many)] + [1]
    pairs = []
    for top in tops:
        common = chance.choice((1, -1, 6, -10 ** 9))
        pairs.append((chance.choice(guesses), (top * common, sum(tops) * common)))
    chance.shuffle(pairs)
    return pairs


def long_pairs(chance, guesses, many):
    """So many pairs, twice a number, with as many different long bottoms as half of them."""
    pairs = []
    for time in range(many // 2):
        bottom = chance.randint(10 ** 56, 10 ** 57)
        top = chance.randint(0, bottom)
        pairs += [(top, bottom * many // 2), (bottom - top, bottom * many // 2)]
    return [(chance.choice(guesses), pair) for pair in pairs]


class MixCase(HouseCase):
    def good(self, told):
        """That this is a mixture by its form."""
        self.assertIs(type(told), list)
        guesses = [guess for guess, part in told]
        self.assertEqual(guesses, sorted(set(guesses)))
        for pair in told:
            self.assertEqual([type(pair), *map(type, pair)], [tuple, tuple, tuple])
            self.assertEqual(pair[1], share(*pair[1]))
            self.assertGreater(pair[1][0], 0)
        self.assertEqual(sum(Fraction(*part) for guess, part in told), 1)


class TestMix(MixCase):
    def test_no_open_post(self):
        self.assertEqual(mix(NOTHING, [((), (1, 1))]), [((), (1, 1))])
        self.assertEqual(mix(SHUT, [((), (2, 3)), ((), (-1, -3))]), [((), (1, 1))])

    def test_in_any_order(self):
        wanted = ones(a0="1/6", a4="1/3", a8="1/2")
        self.assertEqual(mix(WEB, wanted), wanted)
        self.assertEqual(mix(WEB, wanted[::-1]), wanted)
        self.assertEqual(mix(WEB, [wanted[1], wanted[2], wanted[0]]), wanted)
        pairs = [((1, 0), (1, 4)), ((0, 1), (1, 2)), ((1, 1), (1, 8)), ((0, 0), (1, 8))]
        self.assertEqual(mix(SWAP, pairs), sorted(pairs))

    def test_equal_guesses_are_added(self):
        self.assertEqual(mix(WEB, [((3,), (1, 6)), ((0,), (1, 2)), ((3,), (1, 3))]), ones(a0="1/2", a3="1/2"))
        self.assertEqual(mix(WEB, [((3,), (1, 512))] * 512), ones(a3="1/1"))

    def test_shares_of_0_are_left_out(self):
        self.assertEqual(mix(WEB, ones(a0="0/1", a1="1/1", a2="0/-7", a8="0/3")), ones(a1="1/1"))
        self.assertEqual(mix(WEB, [((2,), (0, 5)), ((2,), (1, 1)), ((2,), (0, -1))]), ones(a2="1/1"))

    def test_not_in_lowest_terms_and_turned(self):
        for one, other in product(TURNED, TURNED):
            pairs = [((5,), (3 * one[0], 4 * one[1])), ((1,), (2 * other[0], 8 * other[1]))]
            self.assertEqual(mix(WEB, pairs), ones(a1="1/4", a5="3/4"))

    def test_up_to_512_pairs(self):
        chance = random.Random(15)
        for house in (WEB, COUNTER, SWAP):
            for many in (1, 2, 3, 100, 511):
                pairs = some_pairs(chance, guesses_of(house), many)
                self.assertEqual(mix(house, pairs), told_of(by_guess(pairs)))

    def test_shares_of_many_figures(self):
        chance = random.Random(16)
        for house in (WEB, COUNTER, SWAP, NOTHING):
            pairs = long_pairs(chance, guesses_of(house), 512)
            told = mix(house, pairs)
            self.assertEqual(told, told_of(by_guess(pairs)))
            # What was told may be handed in again.
            self.assertEqual(mix(house, told), told)
        bottom = 10 ** 60 - 1
        tops = [chance.randint(0, 10 ** 57) for time in range(511)]
        pairs = [(chance.choice(guesses_of(COUNTER)), (top, bottom)) for top in tops + [bottom - sum(tops)]]
        self.assertEqual(mix(COUNTER, pairs), told_of(by_guess(pairs)))

    def test_form_and_sum(self):
        chance = random.Random(17)
        for house in HOUSES:
            for many in (0, 1, 5, 20):
                pairs = some_pairs(chance, guesses_of(house), many)
                told = mix(house, pairs)
                self.good(told)
                self.assertEqual(told, told_of(by_guess(pairs)))
                self.assertEqual(mix(house, told), told)

    def test_told_again_where_the_list_was_changed(self):
        self.told_anew(mix, WEB, ones(a0="1/2", a3="1/2"))
        self.told_anew(mix, NOTHING, [((), (1, 1))])

    def test_a_told_list_is_not_the_one_handed_in(self):
        pairs = ones(a0="1/2", a3="1/2")
        told = mix(WEB, pairs)
        pairs.append("more")
        self.assertEqual(told, ones(a0="1/2", a3="1/2"))
        del told[:]
        self.assertEqual(pairs, ones(a0="1/2", a3="1/2") + ["more"])


class TestRefusedPairs(MixCase):
    def each_refuses(self, kind, house, pairs):
        for ask in OF_PAIRS:
            kept = copy.deepcopy(pairs)
            self.refused(kind, ask, house, pairs)
            self.assertEqual(pairs, kept)

    def test_no_pair_at_all(self):
        for house in HOUSES[:4]:
            self.each_refuses(NoMix, house, [])

    def test_what_is_no_guess(self):
        for house in HOUSES[:4]:
            first = guesses_of(house)[0]
            for wrong in no_guesses(house):
                self.each_refuses(NoGuess, house, [(wrong, (1, 1))])
                self.each_refuses(NoGuess, house, [(first, (1, 2)), (wrong, (1, 2))])
                # A share of 0 is left out, but what is no guess is refused ahead of that.
                self.each_refuses(NoGuess, house, [(first, (1, 1)), (wrong, (0, 1))])

    def test_a_bottom_of_0(self):
        for top in (0, 1, -1, 10 ** 59):
            self.each_refuses(NoShare, WEB, [((0,), (top, 0))])
            self.each_refuses(NoShare, WEB, [((0,), (1, 1)), ((1,), (top, 0))])
            self.each_refuses(NoShare, NOTHING, [((), (top, 0))])

    def test_a_share_below_0(self):
        for pair in ((-1, 2), (1, -2), (-10 ** 59, 1), (1, -10 ** 59)):
            self.each_refuses(NoMix, WEB, [((0,), pair)])
        # The sum is 1, also for each guess.
        self.each_refuses(NoMix, WEB, ones(a0="3/2", a1="-1/2"))
        self.each_refuses(NoMix, WEB, [((0,), (3, 2)), ((0,), (1, -2))])
        self.each_refuses(NoMix, WEB, [((0,), (-1, 2)), ((0,), (1, 2)), ((1,), (1, 1))])

    def test_the_sum(self):
        for pairs in (
            ones(a0="0/1"), ones(a0="1/2"), ones(a0="2/1"), ones(a0="1/2", a1="1/3"), ones(a0="1/2", a1="2/3"),
            ones(a0="1/1", a1="1/1"), ones(a0="1/1", a1=f"1/{10 ** 59}"), ones(a0=f"{10 ** 59 - 1}/{10 ** 59}"),
        ):
            self.each_refuses(NoMix, WEB, pairs)

    def test_the_sum_of_many_long_shares(self):
        chance = random.Random(18)
        pairs = [
            (chance.choice(guesses_of(COUNTER)), (10 ** 57, 512 * chance.randint(10 ** 56, 10 ** 57)))
            for time in range(512)
        ]
        self.each_refuses(NoMix, COUNTER, pairs)

    def test_pair_by_pair(self):
        no_guess, no_share, below, much = ((9,), (1, 1)), ((0,), (1, 0)), ((0,), (-1, 2)), ((0,), (7, 1))
        self.each_refuses(NoGuess, WEB, [no_guess, no_share])
        self.each_refuses(NoShare, WEB, [no_share, no_guess])
        self.each_refuses(NoMix, WEB, [below, no_guess])
        self.each_refuses(NoMix, WEB, [below, no_share])
        self.each_refuses(NoGuess, WEB, [no_guess, below])
        self.each_refuses(NoShare, WEB, [no_share, below])
        # The sum is looked at behind all pairs.
        self.each_refuses(NoGuess, WEB, [much, no_guess])
        self.each_refuses(NoShare, WEB, [much, no_share])
        self.each_refuses(NoMix, WEB, [much, below])

    def test_within_one_pair(self):
        self.each_refuses(NoGuess, WEB, [((9,), (1, 0))])
        self.each_refuses(NoGuess, WEB, [((9,), (-1, 1))])
        self.each_refuses(NoShare, WEB, [((0,), (-1, 0))])

    def test_what_is_handed_in_stays(self):
        loose = [((3,), (-4, -8)), ((0,), (-2, -8)), ((3,), (2, 8)), ((8,), (0, 3))]
        still = [((4,), (-4, -8)), ((3,), (1, 4)), ((8,), (0, 3)), ((3,), (2, 8))]
        for pairs, asks in ((loose, (mix, sent_on, long_run, stays)), (still, OF_PAIRS)):
            for ask in asks:
                kept = copy.deepcopy(pairs)
                ask(WEB, pairs)
                self.assertEqual(pairs, kept)


class TestSentOn(MixCase):
    def test_no_open_post(self):
        self.assertEqual(sent_on(NOTHING, [((), (1, 1))]), [((), (1, 1))])
        self.assertEqual(sent_on(SHUT, [((), (1, 1))]), [((), (1, 1))])

    def test_each_to_the_one_it_leads_to(self):
        self.assertEqual(sent_on(WEB, ones(a2="1/1")), ones(a0="1/1"))
        self.assertEqual(sent_on(WEB, ones(a0="1/6", a2="1/3", a8="1/2")), ones(a0="1/3", a1="1/6", a7="1/2"))
        self.assertEqual(sent_on(SWAP, [((0, 1), (1, 3)), ((1, 1), (2, 3))]), [((1, 0), (1, 3)), ((1, 1), (2, 3))])

    def test_several_that_lead_to_one(self):
        self.assertEqual(sent_on(WEB, ones(a2="1/4", a7="1/4", a5="1/2")), ones(a0="1/2", a5="1/2"))
        self.assertEqual(sent_on(WEB, ones(a2="1/3", a4="1/6", a6="1/6", a7="1/3")), ones(a0="2/3", a3="1/3"))
        every = [((letter,), (1, 9)) for letter in range(9)]
        self.assertEqual(sent_on(mapped((8,) * 9), every), ones(a8="1/1"))

    def test_as_told_a_second_time(self):
        chance = random.Random(19)
        for house in HOUSES:
            pairs = some_pairs(chance, guesses_of(house), 12)
            told = sent_on(house, pairs)
            self.good(told)
            self.assertEqual(told, told_of(second_sent_on(house, by_guess(pairs))), house)

    def test_told_again_where_the_list_was_changed(self):
        self.told_anew(sent_on, WEB, ones(a0="1/2", a3="1/2"))


class TestStays(MixCase):
    def test_no_open_post(self):
        self.assertIs(stays(NOTHING, [((), (1, 1))]), True)
        self.assertIs(stays(SHUT, [((), (1, 1))]), True)

    def test_even_on_rings(self):
        for pairs in (
            ones(a5="1/1"), ones(a3="1/2", a4="1/2"), ones(a0="1/3", a1="1/3", a2="1/3"),
            ones(a4="1/4", a3="1/4", a5="1/2"), ones(a0="1/9", a1="2/18", a2="1/9", a5="6/9"),
            ones(a2="1/6", a0="1/6", a3="1/12", a1="1/6", a4="1/12", a5="1/3", a8="0/1"),
        ):
            self.assertIs(stays(WEB, pairs), True, pairs)
        self.assertIs(stays(SWAP, [((0, 0), (1, 7)), ((0, 1), (2, 7)), ((1, 0), (2, 7)), ((1, 1), (2, 7))]), True)

    def test_not_even_on_a_ring(self):
        for pairs in (
            ones(a3="1/1"), ones(a0="1/2", a1="1/2"), ones(a3="1/3", a4="2/3"), ones(a0="1/2", a1="1/4", a2="1/4"),
            ones(a3="1/4", a5="3/4"), ones(a0="1/5", a1="1/5", a2="1/5", a3="1/5", a5="1/5"),
        ):
            self.assertIs(stays(WEB, pairs), False, pairs)

    def test_guesses_in_no_ring(self):
        for pairs in (ones(a8="1/1"), ones(a5="1/2", a6="1/2"), ones(a3="1/3", a4="1/3", a6="1/3")):
            self.assertIs(stays(WEB, pairs), False, pairs)

    def test_just_where_even_on_rings(self):
        chance = random.Random(20)
        tried = set()
        for house in HOUSES:
            in_rings = [guess for ring in rings(house) for guess in ring]
            for guesses in (guesses_of(house), in_rings):
                for pairs in (some_pairs(chance, guesses, 3), [(guess, (1, len(guesses))) for guess in guesses]):
                    shares = by_guess(pairs)
                    wanted = all(guess in in_rings for guess in shares) and all(
                        len({shares.get(guess, 0) for guess in ring}) == 1 for ring in rings(house)
                    )
                    self.assertIs(stays(house, pairs), wanted)
                    self.assertEqual(stays(house, pairs), sent_on(house, pairs) == mix(house, pairs))
                    tried.add(wanted)
        self.assertEqual(tried, {True, False})


class TestWeightsOf(MixCase):
    def test_no_open_post(self):
        self.assertEqual(weights_of(NOTHING, [((), (1, 1))]), [(1, 1)])
        self.assertEqual(weights_of(SHUT, [((), (1, 1))]), [(1, 1)])

    def test_one_for_each_ring_in_their_order(self):
        pairs = ones(a2="1/6", a0="1/6", a3="1/12", a1="1/6", a4="1/12", a5="1/3")
        self.assertEqual(weights_of(WEB, pairs), [(1, 2), (1, 6), (1, 3)])
        pairs = [((1, 0), (2, 7)), ((0, 0), (1, 7)), ((1, 1), (2, 7)), ((0, 1), (2, 7))]
        self.assertEqual(weights_of(SWAP, pairs), [(1, 7), (4, 7), (2, 7)])

    def test_rings_without_a_share(self):
        self.assertEqual(weights_of(WEB, ones(a5="1/1")), [(0, 1), (0, 1), (1, 1)])
        self.assertEqual(weights_of(WEB, ones(a3="1/2", a4="1/2")), [(0, 1), (1, 1), (0, 1)])
        self.assertEqual(weights_of(WEB, ones(a3="1/8", a4="1/8", a5="3/4")), [(0, 1), (1, 4), (3, 4)])

    def test_what_does_not_stay(self):
        for pairs in (
            ones(a3="1/1"), ones(a0="1/2", a1="1/2"), ones(a3="1/3", a4="2/3"), ones(a8="1/1"),
            ones(a5="1/2", a6="1/2"), ones(a3="1/3", a4="1/3", a6="1/3"),
        ):
            self.refused(NotStill, weights_of, WEB, pairs)
        self.refused(NotStill, weights_of, SWAP, [((0, 1), (1, 1))])

    def test_not_still_behind_the_refusals_of_pairs(self):
        self.refused(NoGuess, weights_of, WEB, ones(a8="1/1", a9="0/1"))
        self.refused(NoShare, weights_of, WEB, ones(a8="1/1", a7="0/0"))
        self.refused(NoMix, weights_of, WEB, ones(a8="1/1", a7="-1/2"))
        self.refused(NoMix, weights_of, WEB, ones(a8="1/2"))

    def test_told_again_where_the_list_was_changed(self):
        self.told_anew(weights_of, WEB, ones(a3="1/2", a4="1/2"))
        self.told_anew(weights_of, NOTHING, [((), (1, 1))])

    def test_kinds(self):
        for told in (weights_of(WEB, ones(a5="1/1")), weights_of(NOTHING, [((), (1, 1))])):
            for weight in told:
                self.assertEqual([type(weight), *map(type, weight)], [tuple, int, int])


class TestOfWeights(MixCase):
    def test_no_open_post(self):
        self.assertEqual(of_weights(NOTHING, [(1, 1)]), [((), (1, 1))])
        self.assertEqual(of_weights(SHUT, [(-5, -5)]), [((), (1, 1))])

    def test_dealt_evenly(self):
        wanted = ones(a0="1/6", a1="1/6", a2="1/6", a3="1/12", a4="1/12", a5="1/3")
        self.assertEqual(of_weights(WEB, [(1, 2), (1, 6), (1, 3)]), wanted)
        wanted = [((0, 0), (1, 7)), ((0, 1), (2, 7)), ((1, 0), (2, 7)), ((1, 1), (2, 7))]
        self.assertEqual(of_weights(SWAP, [(1, 7), (4, 7), (2, 7)]), wanted)

    def test_rising_where_rings_lie_between_one_another(self):
        house = mapped((3, 4, 2, 5, 1, 0))
        self.assertEqual(rings(house), [[(0,), (3,), (5,)], [(1,), (4,)], [(2,)]])
        wanted = ones(a0="1/6", a1="1/8", a2="1/4", a3="1/6", a4="1/8", a5="1/6")
        self.assertEqual(of_weights(house, [(1, 2), (1, 4), (1, 4)]), wanted)

    def test_weights_of_0(self):
        self.assertEqual(of_weights(WEB, [(0, 1), (0, -4), (1, 1)]), ones(a5="1/1"))
        self.assertEqual(of_weights(WEB, [(0, 9), (1, 1), (0, 2)]), ones(a3="1/2", a4="1/2"))

    def test_not_in_lowest_terms_and_turned(self):
        for one, other in product(TURNED, TURNED):
            weights = [(2 * one[0], 4 * one[1]), (0, 3), (7 * other[0], 14 * other[1])]
            self.assertEqual(of_weights(WEB, weights), ones(a0="1/6", a1="1/6", a2="1/6", a5="1/2"))

    def test_weights_come_back_in_lowest_terms(self):
        chance = random.Random(21)
        for house in HOUSES:
            for greatest in (3, 10 ** 29):
                tops = [chance.randint(0, greatest) for ring in rings(house)]
                tops[chance.randrange(len(tops))] += 1
                common = chance.choice((1, 6, -6, 10 ** 20))
                weights = [(top * common, sum(tops) * common) for top in tops]
                kept = list(weights)
                told = of_weights(house, weights)
                self.assertEqual(weights, kept)
                self.good(told)
                self.assertIs(stays(house, told), True)
                self.assertEqual(weights_of(house, told), [share(*weight) for weight in weights])
                self.assertEqual(of_weights(house, weights_of(house, told)), told)
                self.assertEqual(long_run(house, told), told)

    def test_not_as_many_as_rings(self):
        for weights in (
            [], [(1, 1)], [(1, 2), (1, 2)], [(1, 4)] * 4, [(1, 3), (1, 3), (1, 3), (0, 1)], [(1, 0)], [(1, 0)] * 4,
            [(-1, 1), (2, 1)],
        ):
            self.refused(NoMix, of_weights, WEB, weights)
        self.refused(NoMix, of_weights, NOTHING, [])
        self.refused(NoMix, of_weights, NOTHING, [(1, 1), (0, 1)])
        self.refused(NoMix, of_weights, NOTHING, [(1, 0), (0, 1)])

    def test_weight_by_weight(self):
        self.refused(NoShare, of_weights, WEB, [(1, 0), (-1, 1), (1, 1)])
        self.refused(NoMix, of_weights, WEB, [(-1, 1), (1, 0), (1, 1)])
        self.refused(NoShare, of_weights, WEB, [(1, 1), (0, 1), (-1, 0)])
        self.refused(NoShare, of_weights, WEB, [(5, 1), (5, 1), (0, 0)])
        self.refused(NoMix, of_weights, WEB, [(1, 1), (1, 1), (-1, 1)])
        self.refused(NoMix, of_weights, WEB, [(1, 1), (1, 1), (1, -1)])
        self.refused(NoMix, of_weights, WEB, [(3, 2), (-1, 2), (0, 1)])

    def test_the_sum(self):
        for weights in (
            [(0, 1)] * 3, [(1, 1)] * 3, [(1, 2), (1, 2), (1, 2)], [(1, 3), (1, 3), (1, 4)],
            [(1, 1), (0, 1), (1, 10 ** 59)],
        ):
            self.refused(NoMix, of_weights, WEB, weights)
        self.refused(NoMix, of_weights, NOTHING, [(0, 1)])
        self.refused(NoMix, of_weights, NOTHING, [(2, 1)])

    def test_what_is_handed_in_stays_where_it_is_refused(self):
        for weights in ([(2, 4)], [(2, 4), (1, 0), (1, 4)], [(2, 4), (-2, 4), (4, 4)], [(2, 4), (2, 4), (2, 4)]):
            kept = list(weights)
            with self.assertRaises(ValueError):
                of_weights(WEB, weights)
            self.assertEqual(weights, kept)

    def test_told_again_where_the_list_was_changed(self):
        self.told_anew(of_weights, WEB, [(1, 2), (1, 6), (1, 3)])


class TestLongRun(MixCase):
    def test_no_open_post(self):
        self.assertEqual(long_run(NOTHING, [((), (1, 1))]), [((), (1, 1))])
        self.assertEqual(long_run(SHUT, [((), (1, 1))]), [((), (1, 1))])

    def test_roads_into_several_rings(self):
        self.assertEqual(long_run(WEB, ones(a8="1/1")), ones(a0="1/3", a1="1/3", a2="1/3"))
        self.assertEqual(long_run(WEB, ones(a6="1/1")), ones(a3="1/2", a4="1/2"))
        self.assertEqual(long_run(WEB, ones(a5="1/2", a6="1/4", a3="1/4")), ones(a3="1/4", a4="1/4", a5="1/2"))
        wanted = ones(a0="5/27", a1="5/27", a2="5/27", a3="1/6", a4="1/6", a5="1/9")
        self.assertEqual(long_run(WEB, [((letter,), (1, 9)) for letter in range(9)]), wanted)

    def test_what_stays_is_its_own_long_run(self):
        pairs = ones(a0="1/6", a1="1/6", a2="1/6", a3="1/12", a4="1/12", a5="1/3")
        self.assertEqual(long_run(WEB, pairs), pairs)

    def test_as_told_a_second_time(self):
        chance = random.Random(22)
        for house in HOUSES:
            pairs = some_pairs(chance, guesses_of(house), 8)
            told = long_run(house, pairs)
            self.good(told)
            self.assertEqual(told, told_of(second_long_run(house, by_guess(pairs))), house)
            self.assertIs(stays(house, told), True)
            self.assertEqual(long_run(house, sent_on(house, pairs)), told)

    def test_weights_are_those_of_the_roads(self):
        chance = random.Random(23)
        for house in HOUSES:
            pairs = some_pairs(chance, guesses_of(house), 8)
            wanted = [Fraction(0) for ring in rings(house)]
            for guess, part in by_guess(pairs).items():
                wanted[road(house, guess)[1]] += part
            told = weights_of(house, long_run(house, pairs))
            self.assertEqual(told, [(part.numerator, part.denominator) for part in wanted])

    def test_told_again_where_the_list_was_changed(self):
        self.told_anew(long_run, WEB, ones(a8="1/2", a6="1/2"))


class TestAtTheBounds(MixCase):
    def test_all_of_256_guesses(self):
        for house in (COUNTER, LONG_ROAD):
            even = [(guess, (1, 256)) for guess in guesses_of(house)]
            moved = [second_sent(house, guess) for guess in guesses_of(house)]
            self.assertEqual(sent_on(house, even), told_of(by_guess([(guess, (1, 256)) for guess in moved])))
            self.assertIs(stays(house, even), house == COUNTER)
        self.assertEqual(long_run(COUNTER, [((1, 2, 3), (1, 1))]), [(guess, (1, 256)) for guess in guesses_of(COUNTER)])
        self.assertEqual(weights_of(COUNTER, [(guess, (1, 256)) for guess in guesses_of(COUNTER)]), [(1, 1)])
        self.assertEqual(of_weights(LONG_ROAD, [(1, 1)]), [((3, 7, 7), (1, 1))])
        pairs = [(guess, (1, 256)) for guess in guesses_of(LONG_ROAD)]
        self.assertEqual(long_run(LONG_ROAD, pairs), [((3, 7, 7), (1, 1))])

    def test_as_many_rings_as_guesses(self):
        posts = [(name, 4, "back", 0) for name in "pqrs"]
        rows = [("take", name, name) for name in "pqrs"] + [("send", name, name) for name in "pqrs"]
        rows += [("take", "p", "p")] * 32
        house = checked([(name, 4, 0) for name in "pqrs"], posts, rows)
        even = [(guess, (1, 256)) for guess in guesses_of(house)]
        for ask in (mix, sent_on, long_run):
            self.assertEqual(ask(house, even[::-1]), even)
        self.assertEqual(weights_of(house, even), [(1, 256)] * 256)
        self.assertEqual(of_weights(house, [(2, 512)] * 256), even)

    def test_great_houses(self):
        chance = random.Random(24)
        for house in SOME_GREAT:
            pairs = some_pairs(chance, guesses_of(house), 500)
            shares = by_guess(pairs)
            self.assertEqual(mix(house, pairs), told_of(shares))
            self.assertEqual(sent_on(house, pairs), told_of(second_sent_on(house, shares)))
            run = long_run(house, pairs)
            self.assertEqual(run, told_of(second_long_run(house, shares)))
            self.assertIs(stays(house, run), True)
            self.assertEqual(of_weights(house, weights_of(house, run)), run)

    def test_long_shares_in_great_houses(self):
        chance = random.Random(25)
        for house in SOME_GREAT[:3]:
            pairs = long_pairs(chance, guesses_of(house), 60)
            run = long_run(house, pairs)
            self.assertEqual(run, told_of(second_long_run(house, by_guess(pairs))))
            self.assertEqual(of_weights(house, weights_of(house, run)), run)

    def test_one_long_share_for_all_guesses_of_a_ring(self):
        # The first post sends what it was told, the second one more each day: two rings, of nine guesses each.
        boxes = [("a", 2, 0), ("b", 9, 0), ("one", 2, 1)]
        posts = [("p", 2, "back", 0), ("q", 9, "back", 0)]
        rows = [("take", "a", "p"), ("take", "b", "q"), ("sum", "b", "b", "one")]
        house = checked(boxes, posts, rows + [("send", "p", "a"), ("send", "q", "b")])
        pairs = long_pairs(random.Random(26), guesses_of(house), 512)
        run = long_run(house, pairs)
        self.assertEqual(run, told_of(second_long_run(house, by_guess(pairs))))
        self.assertEqual(len({part for guess, part in run}), 2)
        self.assertGreater(run[0][1][1], 10 ** 5000)
        self.assertIs(stays(house, run), True)
        for ask in (mix, sent_on, long_run):
            self.assertEqual(ask(house, run), run)
        self.assertEqual(of_weights(house, weights_of(house, run)), run)


if __name__ == "__main__":
    unittest.main()
