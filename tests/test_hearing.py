"""Hearing, parts, pieces and what may be left out: points 18, 19 and 20."""

import unittest
from itertools import combinations, product

from houses import (
    COUNTER, LONG_ROAD, NOTHING, SHUT, SOME, SOME_GREAT, HouseCase, crossed, guesses_of, mapped, second_sent,
)
from yesterpost.day import sent
from yesterpost.hearing import hears, parts, pieces, trimmed
from yesterpost.home import checked, open_names
from yesterpost.settle import settlings

BOXES = [(name, 2, 0) for name in "abcdwxyz"]
POSTS = [
    ("a", 2, "back", 0), ("b", 2, "back", 1), ("c", 2, "back", 0), ("d", 2, "back", 0), ("on", 2, "on", 0),
    ("held", 2, "held", 1),
]
# Behind these the boxes "a" to "d" hear the open posts of the same names, the others none.
TAKES = [("take", name, name) for name in "abcd"]
HOUSES = (NOTHING, SHUT, COUNTER, LONG_ROAD, mapped((1, 2, 0)), crossed((1, 0), (0, 1)), *SOME)


def over(rows):
    return checked(BOXES, POSTS, rows)


def second_hears(house):
    """The hearing told once more, by sets and one case for each word."""
    boxes, posts, rows = house
    way_of = {name: way for name, size, way, letter in posts}
    by_box = {box[0]: set() for box in boxes}
    by_post = {post[0]: set() for post in posts}
    for word, first, *others in rows:
        if word == "set":
            by_box[first] = set()
        elif word in ("copy", "least", "most", "sum", "pick"):
            by_box[first] = set().union(*[by_box[name] for name in others])
        elif word == "send" and way_of[first] != "held":
            by_post[first] = set(by_box[others[0]])
        elif word == "take":
            told = {"on": by_post[others[0]], "back": {others[0]}, "held": set()}
            by_box[first] = set(told[way_of[others[0]]])
    names = [post[0] for post in posts if post[2] == "back"]
    return [[name for name in names if name in by_post[one]] for one in names]


def second_parts(house):
    """The parts told once more: each post with all that are come to from it."""
    names = open_names(house)
    heard = dict(zip(names, second_hears(house)))
    found = []
    for first in names:
        part = {first}
        for time in names:
            part |= {name for name in names for one in part if one in heard[name] or name in heard[one]}
        told = [name for name in names if name in part]
        if told not in found:
            found.append(told)
    return found


def second_pieces(house):
    """The pieces told once more, by all guesses."""
    names = open_names(house)
    told = []
    for part in second_parts(house):
        places = [names.index(name) for name in part]
        pairs = [
            (tuple(guess[at] for at in places), tuple(second_sent(house, guess)[at] for at in places))
            for guess in guesses_of(house)
        ]
        wrong = {one for one, other in pairs if one != other}
        told.append((part, sorted({one for one, other in pairs} - wrong)))
    return told


def second_trimmed(house):
    """The rows that are kept told once more, by sets of boxes and posts and one case for each word."""
    boxes, posts, rows = house
    way_of = {name: way for name, size, way, letter in posts}
    want_boxes, want_posts = set(), set(open_names(house))
    kept = []
    for row in rows[::-1]:
        word, first, *others = row
        if word == "send":
            if first in want_posts:
                kept.insert(0, row)
                want_posts.remove(first)
                want_boxes.add(others[0])
        elif first in want_boxes:
            kept.insert(0, row)
            if word != "turn":
                want_boxes.remove(first)
            if word in ("copy", "least", "most", "sum", "pick"):
                want_boxes.update(others)
            if word == "take" and way_of[others[0]] == "on":
                want_posts.add(others[0])
    return (boxes, posts, tuple(kept))


class TestHears(HouseCase):
    def heard(self, rows, wanted):
        """That behind the takes and these rows the box "w" hears the posts of the text's letters."""
        told = hears(over(TAKES + rows + [("send", "b", "w")]))
        self.assertEqual(told, [[], list(wanted), [], []], rows)

    def test_no_rows(self):
        self.assertEqual(hears(NOTHING), [])
        self.assertEqual(hears(over([])), [[], [], [], []])
        posts = [("p", 3, "back", 0), ("q", 2, "on", 0), ("r", 2, "back", 0)]
        self.assertEqual(hears(checked([], posts, [])), [[], []])

    def test_no_open_post(self):
        self.assertEqual(hears(SHUT), [])

    def test_nothing_is_heard_at_first(self):
        self.heard([], "")
        self.heard([("copy", "w", "x")], "")
        self.heard([("take", "w", "on")], "")

    def test_set_forgets(self):
        self.heard([("copy", "w", "a"), ("set", "w", 1)], "")
        self.heard([("set", "w", 0)], "")

    def test_copy(self):
        self.heard([("copy", "w", "a")], "a")
        self.heard([("copy", "w", "b")], "b")
        self.heard([("copy", "w", "a"), ("copy", "w", "w")], "a")
        self.heard([("copy", "w", "a"), ("copy", "w", "c")], "c")
        self.heard([("copy", "w", "a"), ("copy", "w", "x")], "")

    def test_least_most_and_sum(self):
        for word in ("least", "most", "sum"):
            self.heard([(word, "w", "a", "c")], "ac")
            self.heard([(word, "w", "c", "a")], "ac")
            self.heard([(word, "w", "d", "d")], "d")
            self.heard([(word, "w", "x", "b")], "b")
            self.heard([(word, "w", "b", "x")], "b")
            self.heard([("copy", "w", "d"), (word, "w", "a", "c")], "ac")
            self.heard([("copy", "w", "d"), (word, "w", "w", "c")], "cd")
            self.heard([("copy", "w", "d"), (word, "w", "c", "w")], "cd")

    def test_pick(self):
        self.heard([("pick", "w", "a", "x", "y")], "a")
        self.heard([("pick", "w", "x", "b", "y")], "b")
        self.heard([("pick", "w", "x", "y", "c")], "c")
        self.heard([("pick", "w", "d", "c", "a")], "acd")
        self.heard([("copy", "w", "d"), ("pick", "w", "a", "b", "c")], "abc")
        self.heard([("copy", "w", "d"), ("pick", "w", "a", "w", "c")], "acd")

    def test_turn_keeps(self):
        self.heard([("copy", "w", "a"), ("turn", "w", (1, 0))], "a")
        # By the letter of the document it keeps, though the table tells one number for all.
        self.heard([("sum", "w", "a", "d"), ("turn", "w", (0, 0))], "ad")
        self.heard([("turn", "w", (1, 0))], "")

    def test_take_of_an_open_post(self):
        self.heard([("take", "w", "c")], "c")
        self.heard([("copy", "w", "a"), ("take", "w", "c")], "c")
        # Wherever the row stands, and whatever was sent to it.
        self.heard([("send", "c", "a"), ("take", "w", "c"), ("send", "c", "x")], "c")

    def test_take_of_a_post_on(self):
        self.heard([("send", "on", "c"), ("take", "w", "on")], "c")
        self.heard([("sum", "x", "a", "d"), ("send", "on", "x"), ("take", "w", "on")], "ad")
        self.heard([("send", "on", "c"), ("send", "on", "a"), ("take", "w", "on")], "a")
        self.heard([("send", "on", "c"), ("send", "on", "x"), ("take", "w", "on")], "")
        self.heard([("take", "w", "on"), ("send", "on", "c")], "")
        self.heard([("copy", "w", "a"), ("take", "w", "on")], "")

    def test_take_of_a_held_post(self):
        self.heard([("send", "held", "c"), ("take", "w", "held")], "")
        self.heard([("copy", "w", "a"), ("send", "held", "w"), ("take", "w", "held")], "")

    def test_what_is_heard_later_is_not_passed_back(self):
        self.heard([("copy", "w", "x"), ("copy", "x", "a")], "")
        self.heard([("copy", "w", "a"), ("copy", "a", "b")], "a")
        self.heard([("copy", "x", "a"), ("sum", "a", "a", "b"), ("copy", "w", "x")], "a")

    def test_sends(self):
        told = hears(over(TAKES + [("send", name, "a") for name in ("d", "held", "on", "b")]))
        self.assertEqual(told, [[], ["a"], [], ["a"]])
        told = hears(over(TAKES + [("send", "b", "a"), ("send", "b", "c"), ("send", "a", "d"), ("send", "a", "x")]))
        self.assertEqual(told, [[], ["c"], [], []])
        told = hears(over(TAKES + [("send", name, name) for name in "abcd"]))
        self.assertEqual(told, [["a"], ["b"], ["c"], ["d"]])

    def test_a_box_and_a_post_of_one_name(self):
        self.assertEqual(hears(over([("take", "a", "b"), ("send", "c", "a")])), [[], [], ["b"], []])
        self.assertEqual(hears(over([("take", "b", "a"), ("send", "a", "b"), ("set", "a", 0)])), [["a"], [], [], []])

    def test_lists_in_the_posts_order(self):
        posts = [("z", 2, "back", 0), ("m", 2, "back", 0), ("a", 2, "back", 0)]
        rows = [("take", "a", "a"), ("take", "b", "m"), ("take", "c", "z"), ("sum", "a", "a", "b")]
        house = checked(BOXES, posts, rows + [("sum", "a", "a", "c"), ("send", "a", "a"), ("send", "z", "b")])
        self.assertEqual(hears(house), [["m"], [], ["z", "m", "a"]])

    def test_each_name_once(self):
        rows = [("take", "a", "a"), ("take", "b", "b")] + [("pick", "a", "a", "a", "b"), ("sum", "b", "a", "a")] * 18
        self.assertEqual(hears(over(rows + [("send", "a", "a"), ("send", "d", "b")])), [["a", "b"], [], [], ["a", "b"]])

    def test_as_told_a_second_time(self):
        for house in HOUSES + tuple(SOME_GREAT):
            self.assertEqual(hears(house), second_hears(house), house)

    def test_what_is_sent_is_the_same_under_guesses_alike_there(self):
        for house in HOUSES:
            names = open_names(house)
            for at, heard in enumerate(hears(house)):
                places = [names.index(name) for name in heard]
                letters = {}
                for guess in guesses_of(house):
                    here = tuple(guess[place] for place in places)
                    self.assertEqual(letters.setdefault(here, sent(house, guess)[at]), sent(house, guess)[at], house)

    def test_told_again_where_the_lists_were_changed(self):
        self.told_anew(hears, over(TAKES + [("send", name, name) for name in "abcd"]))
        told = hears(over([]))
        told[0].append("a")
        self.assertEqual(told, [["a"], [], [], []])
        self.assertEqual(hears(over([])), [[], [], [], []])


class TestParts(HouseCase):
    def test_no_open_post(self):
        self.assertEqual(parts(NOTHING), [])
        self.assertEqual(parts(SHUT), [])

    def test_a_post_that_hears_none(self):
        self.assertEqual(parts(over([])), [["a"], ["b"], ["c"], ["d"]])
        self.assertEqual(parts(over([("take", "a", "a"), ("send", "a", "a")])), [["a"], ["b"], ["c"], ["d"]])

    def test_one_hears_the_other(self):
        self.assertEqual(parts(over(TAKES + [("send", "a", "c")])), [["a", "c"], ["b"], ["d"]])
        self.assertEqual(parts(over(TAKES + [("send", "c", "a")])), [["a", "c"], ["b"], ["d"]])
        self.assertEqual(parts(over(TAKES + [("send", "c", "a"), ("send", "a", "c")])), [["a", "c"], ["b"], ["d"]])
        self.assertEqual(parts(over(TAKES + [("send", "d", "b"), ("send", "c", "a")])), [["a", "c"], ["b", "d"]])

    def test_led_to_one_another_by_several_steps(self):
        # Both hear a third one, or both are heard by it, or each hears the next.
        self.assertEqual(parts(over(TAKES + [("send", "a", "c"), ("send", "d", "c")])), [["a", "c", "d"], ["b"]])
        rows = [("sum", "w", "a", "d"), ("send", "c", "w")]
        self.assertEqual(parts(over(TAKES + rows)), [["a", "c", "d"], ["b"]])
        rows = [("send", "d", "c"), ("send", "c", "b"), ("send", "b", "a")]
        self.assertEqual(parts(over(TAKES + rows)), [["a", "b", "c", "d"]])
        rows = [("send", "a", "d"), ("send", "b", "c"), ("send", "c", "d")]
        self.assertEqual(parts(over(TAKES + rows)), [["a", "b", "c", "d"]])

    def test_every_way_of_one_hearing_each(self):
        for heard in product("abcd", repeat=4):
            house = over(TAKES + [("send", name, box) for name, box in zip("abcd", heard)])
            self.assertEqual(parts(house), second_parts(house), heard)

    def test_order_of_names_and_parts(self):
        posts = [("z", 2, "back", 0), ("m", 2, "back", 0), ("a", 2, "back", 0), ("k", 2, "back", 0)]
        rows = [("take", "a", "a"), ("send", "z", "a"), ("take", "b", "k"), ("send", "m", "b")]
        self.assertEqual(parts(checked(BOXES, posts, rows)), [["z", "a"], ["m", "k"]])

    def test_not_by_posts_of_other_ways(self):
        rows = [("send", "held", "a"), ("take", "x", "held"), ("send", "b", "x")]
        self.assertEqual(parts(over(TAKES + rows)), [["a"], ["b"], ["c"], ["d"]])
        rows = [("send", "on", "a"), ("take", "x", "on"), ("send", "b", "x")]
        self.assertEqual(parts(over(TAKES + rows)), [["a", "b"], ["c"], ["d"]])

    def test_as_told_a_second_time(self):
        for house in HOUSES + tuple(SOME_GREAT):
            told = parts(house)
            self.assertEqual(told, second_parts(house), house)
            self.assertEqual(sorted(name for part in told for name in part), sorted(open_names(house)))

    def test_told_again_where_the_lists_were_changed(self):
        self.told_anew(parts, over([]))
        self.told_anew(parts, over(TAKES + [("send", "a", "c")]))


class TestPieces(HouseCase):
    def test_no_open_post(self):
        self.assertEqual(pieces(NOTHING), [])
        self.assertEqual(pieces(SHUT), [])

    def test_a_pair_for_each_part(self):
        rows = [("send", "a", "c"), ("send", "c", "a"), ("send", "b", "x"), ("send", "d", "d")]
        wanted = [(["a", "c"], [(0, 0), (1, 1)]), (["b"], [(0,)]), (["d"], [(0,), (1,)])]
        self.assertEqual(pieces(over(TAKES + rows)), wanted)
        self.assertEqual(pieces(over([])), [(["a"], [(0,)]), (["b"], [(1,)]), (["c"], [(0,)]), (["d"], [(0,)])])

    def test_one_piece(self):
        self.assertEqual(pieces(mapped((0, 0, 2, 4, 4))), [(["noon"], [(0,), (2,), (4,)])])
        self.assertEqual(pieces(crossed((2, 1, 0), (2, 1, 0))), [(["p", "q"], [(0, 2), (1, 1), (2, 0)])])

    def test_a_piece_without_a_tuple(self):
        self.assertEqual(pieces(mapped((1, 2, 0))), [(["noon"], [])])
        rows = [("turn", "a", (1, 0)), ("send", "a", "a"), ("send", "b", "b")]
        wanted = [(["a"], []), (["b"], [(0,), (1,)]), (["c"], [(0,)]), (["d"], [(0,)])]
        self.assertEqual(pieces(over(TAKES + rows)), wanted)
        self.assertEqual(settlings(over(TAKES + rows)), [])

    def test_rising_from_the_first_letter_on(self):
        posts = [("z", 3, "back", 0), ("m", 2, "back", 0), ("a", 2, "back", 0)]
        boxes = [("z", 3, 0), ("m", 2, 0), ("a", 2, 0)]
        rows = [("take", name, name) for name in "zma"] + [("send", name, name) for name in "mza"]
        rows += [("copy", "z", "z"), ("pick", "z", "a", "z", "z"), ("send", "z", "z")]
        house = checked(boxes, posts, rows)
        self.assertEqual(pieces(house), [(["z", "a"], sorted(product(range(3), range(2)))), (["m"], [(0,), (1,)])])

    def test_kinds(self):
        for house in HOUSES:
            for piece in pieces(house):
                self.assertEqual([type(piece), *map(type, piece)], [tuple, list, list])
                self.assertEqual({type(letters) for letters in piece[1]} - {tuple}, set())

    def test_as_told_a_second_time(self):
        for house in HOUSES:
            self.assertEqual(pieces(house), second_pieces(house), house)

    def test_the_guesses_that_settle_have_a_tuple_of_each(self):
        for house in HOUSES + tuple(SOME_GREAT):
            names = open_names(house)
            told = [([names.index(name) for name in part], rows) for part, rows in pieces(house)]
            wanted = [
                guess for guess in guesses_of(house)
                if all(tuple(guess[at] for at in places) in rows for places, rows in told)
            ]
            self.assertEqual(settlings(house), wanted, house)

    def test_told_again_where_the_lists_were_changed(self):
        house = crossed((2, 1, 0), (2, 1, 0))
        told = pieces(house)
        kept = repr(told)
        told[0][0].append("more")
        told[0][1].append("more")
        told.append("more")
        self.assertEqual(repr(pieces(house)), kept)
        self.told_anew(pieces, house)


class TestTrimmed(HouseCase):
    def kept(self, rows, places):
        """That of these rows just those at the places are kept, and boxes and posts stay."""
        house = over(rows)
        told = trimmed(house)
        self.assertEqual(told, (house[0], house[1], tuple(rows[at] for at in places)))
        self.assertEqual([type(told), *map(type, told)], [tuple] * 4)
        for guess in guesses_of(house):
            self.assertEqual(sent(told, guess), sent(house, guess))

    def test_nothing_sent(self):
        self.assertEqual(trimmed(NOTHING), NOTHING)
        self.assertEqual(trimmed(SHUT), (SHUT[0], SHUT[1], ()))
        self.kept([], [])
        self.kept(TAKES + [("sum", "w", "a", "b"), ("send", "on", "w"), ("send", "held", "w")], [])

    def test_each_word_kept_and_left_out(self):
        for row in (
            ("set", "w", 1), ("copy", "w", "x"), ("least", "w", "x", "y"), ("most", "w", "x", "y"),
            ("sum", "w", "x", "y"), ("pick", "w", "x", "y", "z"), ("turn", "w", (1, 0)), ("take", "w", "a"),
        ):
            self.kept([row, ("send", "a", "w")], [0, 1])
            self.kept([row, ("send", "a", "x")], [1])
            self.kept([("send", "a", "w"), row], [0])
            self.kept([row, ("send", "on", "w")], [])
        self.kept([("send", "a", "w")], [0])
        self.kept([("send", "a", "w"), ("send", "b", "w")], [0, 1])
        self.kept([("send", "on", "w")], [])
        self.kept([("send", "held", "w")], [])

    def test_each_word_wants_what_it_reads(self):
        for row, read in (
            (("copy", "w", "x"), "x"), (("least", "w", "x", "y"), "xy"), (("most", "w", "x", "y"), "xy"),
            (("sum", "w", "x", "y"), "xy"), (("pick", "w", "x", "y", "z"), "xyz"), (("turn", "w", (1, 0)), "w"),
            (("set", "w", 1), ""), (("take", "w", "a"), ""), (("take", "w", "held"), ""), (("take", "w", "on"), ""),
        ):
            sets = [("set", name, 1) for name in "abcdwxyz"]
            places = [at for at, name in enumerate("abcdwxyz") if name in read]
            self.kept(sets + [row, ("send", "a", "w")], places + [8, 9])

    def test_sends_want_their_box(self):
        self.kept([("set", "x", 1), ("set", "y", 1), ("send", "b", "y")], [1, 2])
        # A box of the post's own name isn't wanted by that.
        self.kept([("set", "b", 1), ("set", "y", 1), ("send", "b", "y")], [1, 2])

    def test_just_the_later_one_of_two_that_write(self):
        self.kept([("set", "w", 1), ("set", "w", 0), ("send", "a", "w")], [1, 2])
        self.kept([("take", "w", "a"), ("copy", "w", "x"), ("send", "a", "w")], [1, 2])
        self.kept([("set", "x", 1), ("copy", "w", "x"), ("set", "x", 0), ("send", "a", "w")], [0, 1, 3])
        self.kept([("set", "x", 1), ("send", "a", "x"), ("set", "x", 0), ("send", "a", "x")], [2, 3])
        self.kept([("send", "a", "w"), ("send", "b", "w"), ("send", "a", "x")], [1, 2])

    def test_rows_that_read_the_box_they_write(self):
        for row in (
            ("copy", "w", "w"), ("least", "w", "w", "x"), ("most", "w", "x", "w"), ("sum", "w", "w", "w"),
            ("pick", "w", "w", "x", "x"), ("pick", "w", "x", "w", "x"), ("pick", "w", "x", "x", "w"),
            ("turn", "w", (1, 1)),
        ):
            self.kept([("take", "w", "a"), row, ("send", "a", "w")], [0, 1, 2])
            self.kept([("take", "w", "a"), row, ("take", "w", "b"), ("send", "a", "w")], [2, 3])
            self.kept([("take", "w", "a"), row, row, ("send", "a", "w")], [0, 1, 2, 3])

    def test_a_take_of_each_way(self):
        self.kept([("take", "x", "a"), ("send", "on", "x"), ("take", "w", "on"), ("send", "b", "w")], [0, 1, 2, 3])
        self.kept([("take", "x", "a"), ("send", "held", "x"), ("take", "w", "held"), ("send", "b", "w")], [2, 3])
        self.kept([("take", "x", "a"), ("send", "c", "x"), ("take", "w", "c"), ("send", "b", "w")], [0, 1, 2, 3])
        self.kept(
            [("send", "c", "x"), ("take", "w", "c"), ("send", "b", "w"), ("send", "c", "y")], [1, 2, 3],
        )

    def test_a_post_on_sent_to_several_times(self):
        self.kept(
            [("send", "on", "x"), ("send", "on", "y"), ("take", "w", "on"), ("send", "on", "z"), ("send", "b", "w")],
            [1, 2, 4],
        )
        self.kept(
            [("send", "on", "x"), ("take", "w", "on"), ("send", "on", "w"), ("take", "x", "on"), ("send", "b", "x")],
            [0, 1, 2, 3, 4],
        )
        # What takes from it wants no box of its name.
        boxes = [("on", 2, 0), ("w", 2, 0)]
        house = checked(boxes, POSTS, [("set", "on", 1), ("take", "w", "on"), ("send", "b", "w")])
        self.assertEqual(trimmed(house)[2], house[2][1:])

    def test_a_send_to_a_held_post(self):
        self.kept([("send", "held", "a"), ("take", "w", "held"), ("send", "held", "w"), ("send", "a", "w")], [1, 3])

    def test_as_told_a_second_time(self):
        lost = 0
        for house in HOUSES + tuple(SOME_GREAT):
            told = trimmed(house)
            self.assertEqual(told, second_trimmed(house), house)
            self.assertEqual(told, checked(*[list(part) for part in told]))
            self.assertEqual(trimmed(told), told)
            lost += len(house[2]) - len(told[2])
        self.assertGreater(lost, 100)

    def test_what_is_sent_is_the_same(self):
        for house in HOUSES + tuple(SOME_GREAT):
            told = trimmed(house)
            for guess in guesses_of(house):
                self.assertEqual(sent(told, guess), second_sent(house, guess), house)

    def test_hearing_is_the_same(self):
        for house in HOUSES:
            self.assertEqual(hears(trimmed(house)), hears(house))


class TestAtTheBounds(HouseCase):
    def test_forty_rows_that_read_all(self):
        rows = TAKES + [("pick", "w", "w", one, other) for one, other in combinations("abcdw", 2)] * 3
        house = over((rows + [("sum", "w", "w", "w")] * 40)[:39] + [("send", "d", "w")])
        self.assertEqual(hears(house), [[], [], [], ["a", "b", "c", "d"]])
        self.assertEqual(trimmed(house), house)
        self.assertEqual(parts(house), [["a", "b", "c", "d"]])

    def test_sizes_of_1(self):
        posts = [(name, 1, "back", 0) for name in "abcdef"]
        house = checked([("w", 1, 0)], posts, [("take", "w", "a"), ("send", "f", "w")])
        self.assertEqual(hears(house), [[], [], [], [], [], ["a"]])
        self.assertEqual(parts(house), [["a", "f"], ["b"], ["c"], ["d"], ["e"]])
        wanted = [(["a", "f"], [(0, 0)])] + [([name], [(0,)]) for name in "bcde"]
        self.assertEqual(pieces(house), wanted)

    def test_sizes_of_9(self):
        posts = [("p", 9, "back", 0), ("q", 9, "back", 8), ("r", 3, "back", 2)]
        rows = [("take", "w", "q"), ("turn", "w", (0, 1, 2, 3, 4, 5, 6, 7, 0)), ("send", "q", "w"), ("send", "r", "x")]
        house = checked([("w", 9, 0), ("x", 9, 8)], posts, rows)
        wanted = [(["p"], [(0,)]), (["q"], [(letter,) for letter in range(8)]), (["r"], [(2,)])]
        self.assertEqual(pieces(house), wanted)


if __name__ == "__main__":
    unittest.main()
