"""Shares: pairs (top, bottom) in lowest terms."""

from yesterpost.errors import NoShare


def share(top, bottom):
    """The share of that top and that bottom."""
    if bottom == 0:
        raise NoShare("a share's bottom is not 0")
    # A measure of the bottom's sign turns both signs where the bottom is below 0.
    measure = greatest_measure(top, bottom) if bottom > 0 else -greatest_measure(top, bottom)
    return (top // measure, bottom // measure)


def greatest_measure(one, other):
    """The greatest number that measures both; above 0 where either isn't 0."""
    while other != 0:
        one, other = other, one % other
    return abs(one)


def plus(one, other):
    """The sum of two shares handed in."""
    # A bottom of 0 makes the bottom of the answer 0, so that it is refused there.
    return share(one[0] * other[1] + other[0] * one[1], one[1] * other[1])


def times(one, other):
    """The product of two shares handed in."""
    return share(one[0] * other[0], one[1] * other[1])


def sum_of(shares):
    """The sum of any number of shares."""
    # One alone is in lowest terms already, and to find that out of a long one takes its time.
    if len(shares) == 1:
        return shares[0]
    top, bottom = over_one_bottom(shares)
    return share(top, bottom)


def over_one_bottom(shares):
    """The sum of any number of shares, as a pair that need not be in lowest terms."""
    # To bring hundreds of long shares to lowest terms one by one takes far longer than to do it once at the end.
    tops = {}
    for top, bottom in shares:
        tops[bottom] = tops.get(bottom, 0) + top
    whole_top, whole_bottom = 0, 1
    for bottom in tops:
        whole_top = whole_top * bottom + tops[bottom] * whole_bottom
        whole_bottom *= bottom
    return (whole_top, whole_bottom)
