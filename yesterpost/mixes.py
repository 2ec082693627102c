"""Mixtures of guesses, and where they are led to."""

from yesterpost.day import sent
from yesterpost.errors import NoMix, NotStill
from yesterpost.guesses import all_guesses, check_guess
from yesterpost.shares import over_one_bottom, share, sum_of, times
from yesterpost.web import rings


def mix(house, pairs):
    """The mixture of these pairs, or the first refusal."""
    read = []
    # The guesses of a ring often have one long share, which is brought to lowest terms just once.
    lowest = {}
    for guess, (top, bottom) in pairs:
        check_guess(house, guess)
        if (top, bottom) not in lowest:
            lowest[top, bottom] = share_not_below(top, bottom)
        read.append((guess, lowest[top, bottom]))
    check_whole([part for guess, part in read])
    return gathered(read)


def share_not_below(top, bottom):
    """The share of that top and that bottom; one below 0 is refused."""
    part = share(top, bottom)
    if part[0] < 0:
        raise NoMix("no share of a mixture is below 0")
    return part


def check_whole(shares):
    """Refuse shares whose sum isn't 1."""
    top, bottom = over_one_bottom(shares)
    if top != bottom:
        raise NoMix("the sum of a mixture's shares is 1")


def gathered(read):
    """The mixture of pairs whose shares are good and have the sum 1."""
    given = {}
    for guess, part in read:
        given.setdefault(guess, []).append(part)
    added = [(guess, sum_of(given[guess])) for guess in sorted(given)]
    return [(guess, part) for guess, part in added if part[0] > 0]


def sent_on(house, pairs):
    """The mixture in which each guess has given its share to the one it leads to."""
    return led_on(house, mix(house, pairs))


def led_on(house, mixture):
    """The mixture sent on by one day."""
    return gathered([(sent(house, guess), part) for guess, part in mixture])


def stays(house, pairs):
    """Whether what is sent on is the mixture itself."""
    mixture = mix(house, pairs)
    return led_on(house, mixture) == mixture


def weights_of(house, pairs):
    """The rings' weights in a mixture that stays."""
    mixture = mix(house, pairs)
    if led_on(house, mixture) != mixture:
        raise NotStill("the mixture doesn't stay")
    return ring_weights(house, rings(house), mixture)


def ring_weights(house, found, mixture):
    """For each of the rings found, the sum of the shares of all guesses whose roads come to it."""
    ring_at = {guess: at for at, ring in enumerate(found) for guess in ring}
    leads = {guess: sent(house, guess) for guess in all_guesses(house)}
    given = [[] for ring in found]
    for guess, part in mixture:
        come_to = guess
        while come_to not in ring_at:
            come_to = leads[come_to]
        given[ring_at[come_to]].append(part)
    return [sum_of(shares) for shares in given]


def of_weights(house, weights):
    """The mixture in which each ring's weight is dealt evenly to its guesses."""
    found = rings(house)
    if len(weights) != len(found):
        raise NoMix("there is one weight for each ring")
    good = [share_not_below(top, bottom) for top, bottom in weights]
    check_whole(good)
    return dealt(found, good)


def dealt(found, weights):
    """The mixture of the weights of the rings found."""
    pairs = []
    for ring, weight in zip(found, weights):
        part = times(weight, (1, len(ring)))
        pairs.extend([(guess, part) for guess in ring])
    return gathered(pairs)


def long_run(house, pairs):
    """The mixture in which each ring has the shares of all guesses whose roads come to it."""
    mixture = mix(house, pairs)
    found = rings(house)
    return dealt(found, ring_weights(house, found, mixture))
