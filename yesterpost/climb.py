"""Rising houses, and the ways up and down to a guess that settles."""

from yesterpost.errors import NotRising
from yesterpost.guesses import open_sizes
from yesterpost.web import walk


def rises(house):
    """Whether the house rises."""
    return all([row_rises(row) for row in house[2]])


def row_rises(row):
    """Whether a rising house may have this row."""
    if row[0] == "turn":
        return list(row[2]) == sorted(row[2])
    return row[0] not in ("sum", "pick")


def climb(house):
    """The guesses from that of noughts up to the first that settles."""
    return way_from(house, tuple([0 for size in open_sizes(house)]))


def descend(house):
    """The guesses from that of each size less one down to the first that settles."""
    return way_from(house, tuple([size - 1 for size in open_sizes(house)]))


def way_from(house, guess):
    """The guesses from the lowest or the highest one on to the first that settles."""
    if not rises(house):
        raise NotRising("the house doesn't rise")
    # From either end a rising house never turns back: the walk's ring is one guess, its last, and that settles.
    walked, at = walk(house, guess)
    return walked
