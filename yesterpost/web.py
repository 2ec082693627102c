"""Rings of guesses, and the roads that lead into them."""

from yesterpost.day import sent
from yesterpost.errors import NoCount
from yesterpost.guesses import all_guesses


def rings(house):
    """All rings, each from its least guess on, in the order of these."""
    found = []
    come_from = {}
    for first in all_guesses(house):
        guess = first
        walked = []
        while guess not in come_from:
            come_from[guess] = first
            walked.append(guess)
            guess = sent(house, guess)
        # A walk that ends at an earlier walk's guess leads to the ring that was found then.
        if come_from[guess] == first:
            found.append(from_least(walked[walked.index(guess):]))
    # Rings share no guess, so that their first guesses alone tell the order.
    return sorted(found)


def from_least(ring):
    """The same ring, told from its guess of the least number on."""
    # Guesses of one house have one length: they are ordered as their numbers are.
    at = ring.index(min(ring))
    return ring[at:] + ring[:at]


def walk(house, guess):
    """The guesses from this one on, none twice, and the place among them of the one that the last leads to."""
    walked = []
    while guess not in walked:
        walked.append(guess)
        guess = sent(house, guess)
    return (walked, walked.index(guess))


def road(house, guess):
    """The guesses ahead of the ring that is come to, the place of that ring, and the place in it come to first."""
    walked, at = walk(house, guess)
    found = rings(house)
    ring = [walked[at] in guesses for guesses in found].index(True)
    return (walked[:at], ring, found[ring].index(walked[at]))


def led(house, guess, many):
    """The guess that so many steps lead to."""
    walked, at = walk(house, guess)
    check_count(many)
    return come_to(walked, at, many)


def check_count(many):
    """Refuse a day or a count of days below 0."""
    if many < 0:
        raise NoCount("a day or a count of days is not below 0")


def come_to(walked, at, many):
    """The guess that so many steps lead to from the first of those walked, whose last leads to the one at the place."""
    if many < len(walked):
        return walked[many]
    return walked[at + (many - at) % (len(walked) - at)]
