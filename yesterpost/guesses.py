"""Guesses: one letter for each open post, and their numbers."""

from yesterpost.errors import NoGuess
from yesterpost.home import open_posts, product_of


def open_sizes(house):
    """The sizes of the open posts, in their order."""
    return [post[1] for post in open_posts(house)]


def how_many(house):
    """How many guesses the house has."""
    return product_of(open_sizes(house))


def is_guess(house, guess):
    """Whether the tuple of numbers is a guess of the house."""
    sizes = open_sizes(house)
    return len(guess) == len(sizes) and all([0 <= letter < size for letter, size in zip(guess, sizes)])


def check_guess(house, guess):
    """Refuse what is no guess of the house."""
    if not is_guess(house, guess):
        raise NoGuess("no guess of this house")


def number_of(house, guess):
    """The number of the guess; the first open post counts most."""
    check_guess(house, guess)
    number = 0
    for letter, size in zip(guess, open_sizes(house)):
        number = number * size + letter
    return number


def guess_at(house, number):
    """The guess of that number."""
    if not 0 <= number < how_many(house):
        raise NoGuess("no guess of this house has the number")
    letters = []
    rest = number
    sizes = open_sizes(house)
    for size in reversed(sizes):
        letters.append(rest % size)
        rest //= size
    return tuple(letters[::-1])


def all_guesses(house):
    """All guesses, rising by number."""
    return [guess_at(house, number) for number in range(how_many(house))]
