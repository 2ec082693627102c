"""Guesses that settle, and the posts that quarrel where none does."""

from yesterpost.day import sent
from yesterpost.guesses import all_guesses
from yesterpost.home import open_names, with_way


def settlings(house):
    """All guesses that settle."""
    return [guess for guess in all_guesses(house) if sent(house, guess) == guess]


def quarrels(house, guess):
    """The names of the posts that quarrel under the guess."""
    letters = sent(house, guess)
    return [name for name, one, other in zip(open_names(house), guess, letters) if one != other]


def nearest(house):
    """Of the guesses under which the fewest posts quarrel, the one of the least number."""
    # Of several that are alike, min tells the first.
    return min(all_guesses(house), key=lambda guess: len(quarrels(house, guess)))


def fewest_holds(house):
    """The posts that quarrel under the nearest guess, with its letters."""
    guess = nearest(house)
    names = quarrels(house, guess)
    return [(name, letter) for name, letter in zip(open_names(house), guess) if name in names]


def held(house, holds):
    """The house in which the named posts are held to their letters; of two holds of one post the later stands."""
    boxes, posts, rows = house
    for name, letter in holds:
        posts = with_way(posts, name, "held", letter)
    return (boxes, posts, rows)


def letters_seen(house):
    """For each open post, the letters that it has in some guess that settles."""
    settled = settlings(house)
    return [sorted({guess[at] for guess in settled}) for at in range(len(open_names(house)))]
