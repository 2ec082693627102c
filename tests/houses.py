"""Houses for the tests, a second telling of a day to hold the program against, and how refusals are looked at."""

import random
import unittest
from itertools import product

from yesterpost import errors
from yesterpost.errors import HouseError
from yesterpost.home import checked

KINDS = [kind for kind in vars(errors).values() if isinstance(kind, type) and kind.__bases__ == (HouseError,)]

NOTHING = checked([], [], [])
# No post is open here, though letters are sent and taken.
SHUT = checked(
    [("a", 3, 2), ("b", 4, 0)],
    [("p", 3, "on", 1), ("q", 4, "held", 3)],
    [("take", "b", "p"), ("send", "p", "a"), ("send", "q", "b"), ("take", "a", "q")],
)


def mapped(table):
    """A house of one open post under which the guess (k,) leads to (table[k],)."""
    size = len(table)
    rows = [("take", "hand", "noon"), ("turn", "hand", tuple(table)), ("send", "noon", "hand")]
    return checked([("hand", size, 0)], [("noon", size, "back", 0)], rows)


def crossed(one, other):
    """Two open posts "p" and "q": (j, k) leads to (one[k], other[j]), each fitted to its post's size."""
    size = max(len(one), len(other))
    turns = [("turn", name, table + table[-1:] * (size - len(table))) for name, table in (("j", other), ("k", one))]
    return checked(
        [("j", size, 0), ("k", size, 0)],
        [("p", len(other), "back", 0), ("q", len(one), "back", 0)],
        [("take", "j", "p"), ("take", "k", "q"), *turns, ("send", "p", "k"), ("send", "q", "j")],
    )


# Three open posts of 256 guesses: the guess of each number leads to that of the next, the last one to the first.
COUNTING_BOXES = [
    ("low", 8, 0), ("mid", 8, 0), ("high", 4, 0), ("one", 2, 1), ("zero", 1, 0), ("all", 8, 0), ("seven", 8, 7),
    ("carry", 2, 0),
]
COUNTING_POSTS = [("high", 4, "back", 0), ("mid", 8, "back", 0), ("low", 8, "back", 0)]
COUNTING_ROWS = [
    ("take", "high", "high"), ("take", "mid", "mid"), ("take", "low", "low"),
    ("sum", "low", "low", "one"), ("pick", "carry", "low", "one", "zero"),
    ("sum", "mid", "mid", "carry"), ("most", "all", "low", "mid"), ("pick", "carry", "all", "one", "zero"),
    ("sum", "high", "high", "carry"), ("most", "all", "all", "high"),
]
SENDING_ROWS = [("send", "high", "high"), ("send", "mid", "mid"), ("send", "low", "low")]
STOPPING_ROWS = [("pick", name, "all", "seven", name) for name in ("low", "mid", "high")]
COUNTER = checked(COUNTING_BOXES, COUNTING_POSTS, COUNTING_ROWS + SENDING_ROWS)
# The same, but the last guess leads to itself.
LONG_ROAD = checked(COUNTING_BOXES, COUNTING_POSTS, COUNTING_ROWS + STOPPING_ROWS + SENDING_ROWS)

RISING_WORDS = ("set", "copy", "least", "most", "turn", "send", "take", "send", "take")
ALL_WORDS = RISING_WORDS + ("sum", "pick")


def some_row(chance, boxes, posts, words):
    """A good row of one of the words; the tables rise where no "sum" is among these."""
    word = chance.choice(words)
    name, size, start = chance.choice(boxes)
    others = [chance.choice(boxes)[0] for time in range(3)]
    post = chance.choice(posts)[0]
    table = [chance.randrange(size) for place in range(size)]
    parts = {
        "set": (name, chance.randrange(size)),
        "copy": (name, others[0]),
        "least": (name, others[0], others[1]),
        "most": (name, others[0], others[1]),
        "sum": (name, others[0], others[1]),
        "pick": (name, others[0], others[1], others[2]),
        "turn": (name, tuple(table if "sum" in words else sorted(table))),
        "send": (post, name),
        "take": (name, post),
    }
    return (word,) + parts[word]


def some_house(seed, words=ALL_WORDS):
    """A house, always the same for one number and the same words."""
    chance = random.Random(seed)
    boxes = []
    for name in "abcd"[:chance.randint(1, 4)]:
        size = chance.randint(1, 9)
        boxes.append((name, size, chance.randrange(size)))
    posts = []
    for name in "apqr"[:chance.randint(1, 4)]:
        size = chance.randint(1, 4)
        posts.append((name, size, chance.choice(("back", "back", "back", "on", "held")), chance.randrange(size)))
    rows = [some_row(chance, boxes, posts, words) for time in range(chance.randint(0, 20))]
    return checked(boxes, posts, rows)


def some_web(seed):
    """A house of up to three open posts with a box of its own for each, so that much of what is guessed is heard of."""
    chance = random.Random(seed)
    names = list("pqr"[:chance.randint(1, 3)])
    sizes = {name: chance.randint(2, 4) for name in names}
    rows = [("take", name, name) for name in names]
    for time in range(chance.randint(1, 5)):
        one, other, third = [chance.choice(names) for place in range(3)]
        table = tuple(chance.sample(range(sizes[one]), sizes[one]))
        rows.append(chance.choice((("turn", one, table), ("sum", one, one, other), ("pick", one, other, one, third))))
    rows += [("send", name, box) for name, box in zip(names, chance.sample(names, len(names)))]
    return checked([(name, sizes[name], 0) for name in names], [(name, sizes[name], "back", 0) for name in names], rows)


def some_great(seed):
    """A house at the bounds: boxes of the sizes 1 and 9, 40 rows, and open posts of 243 or 256 guesses."""
    chance = random.Random(seed)
    boxes = [(name, size, chance.randrange(size)) for name, size in zip("abcdefgh", (9, 9, 9, 9, 9, 9, 9, 1))]
    sizes = chance.choice(((9, 9, 3, 1, 1, 1), (4, 4, 4, 4), (2, 2, 2, 2, 4, 4), (8, 8, 4)))
    posts = [(name, size, "back", chance.randrange(size)) for name, size in zip("pqrstu", sizes)]
    rows = [("take", box[0], post[0]) for box, post in zip(boxes, posts)]
    rows += [some_row(chance, boxes, posts, ALL_WORDS) for time in range(40 - 2 * len(posts))]
    rows += [("send", post[0], box[0]) for box, post in zip(boxes, posts)]
    return checked(boxes, posts, rows)


SOME = [some_house(seed) for seed in range(100)] + [some_web(seed) for seed in range(100)]
SOME_GREAT = [some_great(seed) for seed in range(8)]
SOME_RISING = [some_house(seed, RISING_WORDS) for seed in range(150)]


def guesses_of(house):
    return list(product(*[range(size) for name, size, way, letter in house[1] if way == "back"]))


def second_trace(house, guess):
    """The day told once more, by places in lists and one case for each word."""
    boxes, posts, rows = house
    box_at = {box[0]: at for at, box in enumerate(boxes)}
    post_at = {post[0]: at for at, post in enumerate(posts)}
    numbers, letters = [box[2] for box in boxes], [post[3] for post in posts]
    rest = list(guess)
    out = [rest.pop(0) if post[2] == "back" else None for post in posts]
    told = [(tuple(numbers), tuple(letters))]
    for word, *parts in rows:
        if word == "send":
            at = post_at[parts[0]]
            number = numbers[box_at[parts[1]]]
            if posts[at][2] != "held":
                letters[at] = number if number < posts[at][1] else posts[at][1] - 1
            told.append((tuple(numbers), tuple(letters)))
            continue
        at = box_at[parts[0]]
        size = boxes[at][1]
        read = [numbers[box_at[part]] for part in parts[1:] if part in box_at]
        if word == "set":
            number = parts[1]
        elif word == "copy":
            number = read[0]
        elif word == "least":
            number = read[0] if read[0] < read[1] else read[1]
        elif word == "most":
            number = read[1] if read[0] < read[1] else read[0]
        elif word == "sum":
            number = (read[0] + read[1]) % size
        elif word == "pick":
            number = read[2] if read[0] else read[1]
        elif word == "turn":
            number = parts[1][numbers[at]]
        else:
            place = post_at[parts[1]]
            number = letters[place] if out[place] is None else out[place]
        numbers[at] = number if number < size else size - 1
        told.append((tuple(numbers), tuple(letters)))
    return told


def second_sent(house, guess):
    letters = second_trace(house, guess)[-1][1]
    return tuple(letter for letter, post in zip(letters, house[1]) if post[2] == "back")


def no_guesses(house):
    """Tuples of whole numbers that are no guesses of the house."""
    sizes = [size for name, size, way, letter in house[1] if way == "back"]
    first = (0,) * len(sizes)
    wrong = [first + (0,), (0,) + first + (0,), first + (0,) * 7]
    if sizes:
        wrong += [(), first[1:]]
    for at, size in enumerate(sizes):
        wrong += [first[:at] + (letter,) + first[at + 1:] for letter in (-1, -size, size, size + 1, 10 ** 6000)]
    return [guess for guess in wrong if guess not in guesses_of(house)]


class HouseCase(unittest.TestCase):
    def refused(self, kind, ask, *handed):
        """That just this class refuses, and none of the others."""
        with self.assertRaises(HouseError) as caught:
            ask(*handed)
        self.assertIsInstance(caught.exception, ValueError)
        self.assertEqual([each for each in KINDS if isinstance(caught.exception, each)], [kind])

    def told_anew(self, ask, *handed):
        """That the answer is a list that may be changed, lists in it too, and the same is told again."""
        told = ask(*handed)
        kept = repr(told)
        self.assertIs(type(told), list)
        for part in told:
            if isinstance(part, list):
                part.append("more")
                part[0] = "other"
        told.append("more")
        told[0] = "other"
        self.assertEqual(repr(ask(*handed)), kept)
        del told[:]
        self.assertEqual(repr(ask(*handed)), kept)
