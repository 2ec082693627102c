"""Claims about a house."""

from yesterpost.day import sent
from yesterpost.errors import NoGuess, NoMix, NoShare
from yesterpost.guesses import is_guess
from yesterpost.mixes import stays
from yesterpost.settle import settlings


def upheld(house, claim):
    """Whether the claim is so."""
    word = claim[0]
    if word == "none":
        return settlings(house) == []
    if word == "stays":
        return is_still(house, claim[1])
    if word == "road":
        return is_road(house, claim[1])
    # A guess that settles is a ring of one.
    return is_ring(house, [claim[1]] if word == "settles" else claim[1])


def is_road(house, guesses):
    """Whether these are guesses, one at least, each next one being what the one ahead sends."""
    if len(guesses) == 0 or not all([is_guess(house, guess) for guess in guesses]):
        return False
    return all([sent(house, one) == other for one, other in zip(guesses, guesses[1:])])


def is_ring(house, guesses):
    """Whether these are a road with no guess twice whose last leads to its first."""
    return len(set(guesses)) == len(guesses) and is_road(house, guesses + guesses[:1])


def is_still(house, pairs):
    """Whether the pairs make a mixture that stays."""
    try:
        return stays(house, pairs)
    except (NoGuess, NoShare, NoMix):
        return False
