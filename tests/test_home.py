"""Houses: points 1 to 4, and the open posts of point 5."""

import unittest
from itertools import combinations, combinations_with_replacement
from math import prod

from yesterpost.errors import HouseError, NoName, NoRow, NoSize, NoWay, TooGreat, Twice
from yesterpost.home import checked, open_names

BOXES = (("a", 3, 2), ("b", 9, 0), ("c", 1, 0))
POSTS = (("p", 2, "on", 1), ("q", 3, "back", 0), ("r", 4, "held", 3))
ROWS = (("set", "a", 2), ("send", "p", "b"), ("take", "a", "q"), ("turn", "a", (0, 2, 1)))


def lists():
    return list(BOXES), list(POSTS), list(ROWS)


def named(many, size=1):
    """As many boxes as told, each of a name of its own."""
    return [("x" * (at // 8) + "stuvwxyz"[at % 8], size, 0) for at in range(many)]


def posted(sizes, way="on"):
    """A post for each size, each of a name of its own."""
    return [("stuvwxyz"[at], size, way, 0) for at, size in enumerate(sizes)]


class HouseCase(unittest.TestCase):
    def refused(self, kind, boxes, posts, rows):
        """That just this class refuses, and that the lists stay as they were; tells the refusal."""
        kept = list(boxes), list(posts), list(rows)
        with self.assertRaises(HouseError) as caught:
            checked(boxes, posts, rows)
        self.assertIs(type(caught.exception), kind)
        self.assertIsInstance(caught.exception, ValueError)
        self.assertEqual((boxes, posts, rows), kept)
        return caught.exception


class TestTold(HouseCase):
    def test_three_tuples_with_each_thing_as_handed_in(self):
        house = checked(*lists())
        self.assertEqual(house, (BOXES, POSTS, ROWS))
        self.assertIs(type(house), tuple)
        self.assertEqual([type(part) for part in house], [tuple, tuple, tuple])

    def test_a_house_of_nothing(self):
        self.assertEqual(checked([], [], []), ((), (), ()))

    def test_boxes_alone_and_posts_alone(self):
        self.assertEqual(checked(list(BOXES), [], []), (BOXES, (), ()))
        self.assertEqual(checked([], list(POSTS), []), ((), POSTS, ()))

    def test_a_house_told_is_a_house_again(self):
        house = checked(*lists())
        self.assertEqual(checked(*house), house)
        self.assertEqual(checked(*[list(part) for part in house]), house)

    def test_what_is_handed_in_stays_and_changing_it_later_changes_nothing(self):
        boxes, posts, rows = lists()
        house = checked(boxes, posts, rows)
        self.assertEqual((boxes, posts, rows), lists())
        boxes.append(("d", 1, 0))
        boxes[0] = ("z", 1, 0)
        posts.clear()
        rows[0] = ("no",)
        del rows[1:]
        self.assertEqual(house, (BOXES, POSTS, ROWS))

    def test_a_box_and_a_post_of_one_name(self):
        house = checked([("a", 2, 1)], [("a", 3, "back", 2)], [("send", "a", "a"), ("take", "a", "a")])
        self.assertEqual(house, ((("a", 2, 1),), (("a", 3, "back", 2),), (("send", "a", "a"), ("take", "a", "a"))))

    def test_order_is_kept(self):
        house = checked(list(BOXES[::-1]), list(POSTS[::-1]), list(ROWS[::-1]))
        self.assertEqual(house, (BOXES[::-1], POSTS[::-1], ROWS[::-1]))

    def test_one_row_many_times(self):
        self.assertEqual(checked(list(BOXES), [], [("set", "a", 0)] * 3)[2], (("set", "a", 0),) * 3)


class TestBounds(HouseCase):
    def test_eight_boxes_and_one_more(self):
        self.assertEqual(len(checked(named(8), [], [])[0]), 8)
        self.refused(TooGreat, named(9), [], [])
        self.refused(TooGreat, named(30), [], [])

    def test_six_posts_and_one_more(self):
        self.assertEqual(len(checked([], posted([1] * 6), [])[1]), 6)
        self.refused(TooGreat, [], posted([1] * 7), [])
        self.refused(TooGreat, [], posted([1] * 8), [])

    def test_forty_rows_and_one_more(self):
        row = ("set", "a", 0)
        self.assertEqual(len(checked(list(BOXES), [], [row] * 40)[2]), 40)
        self.refused(TooGreat, list(BOXES), [], [row] * 41)
        self.refused(TooGreat, list(BOXES), [], [row] * 100)

    def test_a_product_of_just_256(self):
        for way in ("on", "back", "held"):
            for sizes in ([4, 8, 8], [8, 8, 4, 1, 1, 1], [4, 4, 4, 4], [2, 2, 2, 2, 2, 8]):
                self.assertEqual(len(checked([], posted(sizes, way), [])[1]), len(sizes))

    def test_the_least_product_above_256(self):
        # Sizes up to 9 make no product between 256 and 270.
        for way in ("on", "back", "held"):
            for sizes in ([9, 6, 5], [5, 6, 9], [3, 3, 3, 2, 5], [1, 9, 5, 3, 2, 1]):
                self.refused(TooGreat, [], posted(sizes, way), [])

    def test_every_product_of_four_sizes(self):
        for sizes in combinations_with_replacement(range(1, 10), 4):
            if prod(sizes) <= 256:
                self.assertEqual(len(checked([], posted(sizes), [])[1]), 4)
            else:
                self.refused(TooGreat, [], posted(sizes), [])

    def test_the_product_is_of_posts_of_all_ways(self):
        posts = [("s", 8, "on", 0), ("t", 8, "back", 0), ("u", 4, "held", 0)]
        self.assertEqual(checked([], posts, [])[1], tuple(posts))
        self.refused(TooGreat, [], posts + [("v", 2, "on", 0)], [])
        self.refused(TooGreat, [], posts + [("v", 2, "back", 0)], [])
        self.refused(TooGreat, [], posts + [("v", 2, "held", 0)], [])

    def test_the_boxes_sizes_have_no_bound_together(self):
        self.assertEqual(len(checked(named(8, 9), [], [])[0]), 8)

    def test_all_bounds_at_once(self):
        boxes, posts = named(8, 9), posted([4, 4, 4, 4, 1, 1], "back")
        rows = [("send", "s", "t"), ("take", "t", "s")] * 20
        self.assertEqual(checked(boxes, posts, rows), (tuple(boxes), tuple(posts), tuple(rows)))


class TestBoxes(HouseCase):
    def test_names(self):
        for name in ("", "A", "a1", " ", "a b", "abcdefghi", "a\n", "\n", "a-b", "x" * 5000):
            self.refused(NoName, [(name, 2, 0)], [], [])
            self.refused(NoName, list(BOXES) + [(name, 2, 0)], [], [])
        self.assertEqual(checked([("abcdefgh", 2, 0)], [], [])[0], (("abcdefgh", 2, 0),))

    def test_a_name_twice(self):
        self.refused(Twice, [("a", 2, 0), ("a", 2, 0)], [], [])
        self.refused(Twice, [("a", 2, 0), ("b", 2, 0), ("a", 3, 1)], [], [])
        self.refused(Twice, [("a", 2, 0), ("b", 2, 0), ("b", 3, 1)], [], [])

    def test_sizes(self):
        for size in range(1, 10):
            self.assertEqual(checked([("a", size, 0)], [], [])[0], (("a", size, 0),))
        for size in (0, -1, -9, 10, 11, 100, 10 ** 70, -10 ** 70):
            self.refused(NoSize, [("a", size, 0)], [], [])

    def test_starts(self):
        for size in range(1, 10):
            for start in range(size):
                self.assertEqual(checked([("a", size, start)], [], [])[0], (("a", size, start),))
            for start in (-1, -size, size, size + 1, 10 ** 70, -10 ** 70):
                self.refused(NoSize, [("a", size, start)], [], [])

    def test_numbers_of_very_many_figures(self):
        many = 10 ** 6000
        self.refused(NoSize, [("a", many, 0)], [], [])
        self.refused(NoSize, [("a", many, many - 1)], [], [])
        self.refused(NoSize, [("a", 9, -many)], [], [])
        self.refused(NoRow, [("a", 9, 0)], [], [("set", "a", many)])


class TestPosts(HouseCase):
    def test_names(self):
        for name in ("", "A", "a1", " ", "a b", "abcdefghi", "a\n", "\n", "a-b"):
            self.refused(NoName, [], [(name, 2, "on", 0)], [])
            self.refused(NoName, [], list(POSTS) + [(name, 2, "back", 0)], [])
        self.assertEqual(checked([], [("abcdefgh", 2, "on", 0)], [])[1], (("abcdefgh", 2, "on", 0),))

    def test_a_name_twice(self):
        self.refused(Twice, [], [("p", 2, "on", 0), ("p", 2, "on", 0)], [])
        self.refused(Twice, [], [("p", 2, "on", 0), ("q", 2, "on", 0), ("p", 3, "held", 1)], [])
        self.refused(Twice, [("p", 2, 0)], [("q", 2, "on", 0), ("q", 2, "on", 0)], [])

    def test_sizes(self):
        for way in ("on", "back", "held"):
            for size in range(1, 10):
                self.assertEqual(checked([], [("p", size, way, 0)], [])[1], (("p", size, way, 0),))
            for size in (0, -1, -9, 10, 11, 100, 10 ** 70, -10 ** 70):
                self.refused(NoSize, [], [("p", size, way, 0)], [])

    def test_ways(self):
        for way in ("", "On", "ON", "on ", " on", "onback", "o", "n", "bac", "hold", "b", "on\n", "o" * 500):
            self.refused(NoWay, [], [("p", 2, way, 0)], [])

    def test_letters(self):
        for way in ("on", "back", "held"):
            for size in range(1, 10):
                for letter in range(size):
                    self.assertEqual(checked([], [("p", size, way, letter)], [])[1], (("p", size, way, letter),))
                for letter in (-1, -size, size, size + 1, 10 ** 70, -10 ** 70):
                    self.refused(NoSize, [], [("p", size, way, letter)], [])

    def test_numbers_of_very_many_figures(self):
        many = 10 ** 6000
        self.refused(NoSize, [], [("p", many, "on", 0)], [])
        self.refused(NoSize, [], [("p", 9, "on", -many)], [])

    def test_size_then_way_then_letter(self):
        self.refused(NoSize, [], [("p", 0, "no", 5)], [])
        self.refused(NoWay, [], [("p", 2, "no", 5)], [])
        self.refused(NoSize, [], [("p", 2, "on", 5)], [])


class TestRows(HouseCase):
    def test_the_place_of_each_bad_row(self):
        for many in (1, 2, 40):
            for at in range(many):
                rows = [("set", "a", 0)] * many
                rows[at] = ("set", "a", 3)
                self.assertEqual(self.refused(NoRow, list(BOXES), [], rows).at, at)

    def test_the_first_of_several(self):
        rows = [("set", "a", 0), (), ("set", "a", 3), ("copy", "a", "zz")]
        self.assertEqual(self.refused(NoRow, list(BOXES), [], rows).at, 1)
        self.assertEqual(self.refused(NoRow, list(BOXES), [], rows[2:]).at, 0)

    def test_rows_that_are_none(self):
        for row in (
            (), ("set",), ("jump", "a"), (1,), ((0,),), ("set", "a", "b"), ("set", "p", 0), ("send", "a", "p"),
            ("take", "p", "a"), ("turn", "a", (0, 1)), ("turn", "a", 0), ("copy", "a", ()), ("copy", "a", "b", "c"),
        ):
            self.assertEqual(self.refused(NoRow, list(BOXES), list(POSTS), list(ROWS) + [row]).at, 4)

    def test_names_are_those_of_this_house(self):
        self.assertEqual(self.refused(NoRow, [], list(POSTS), [("send", "p", "a")]).at, 0)
        self.assertEqual(self.refused(NoRow, list(BOXES), [], [("send", "p", "a")]).at, 0)


def with_box(at, place, part):
    return lambda boxes, posts, rows: put_part(boxes, at, place, part)


def with_post(at, place, part):
    return lambda boxes, posts, rows: put_part(posts, at, place, part)


def put_part(things, at, place, part):
    things[at] = things[at][:place] + (part,) + things[at][place + 1:]


# Faults of the house above in the order in which they are refused: what is spoilt, by which class it is refused, how.
FAULTS = (
    ("many boxes", TooGreat, lambda boxes, posts, rows: boxes.extend(named(6))),
    ("box 0 name", NoName, with_box(0, 0, "")),
    ("box 0 size", NoSize, with_box(0, 1, 10)),
    ("box 0 start", NoSize, with_box(0, 2, -1)),
    ("box 1 name", NoName, with_box(1, 0, "B")),
    ("box 1 name", Twice, with_box(1, 0, "a")),
    ("box 1 size", NoSize, with_box(1, 1, 0)),
    ("box 1 start", NoSize, with_box(1, 2, 9)),
    ("box 2 name", NoName, with_box(2, 0, "ninesigns")),
    ("box 2 name", Twice, with_box(2, 0, "a")),
    ("box 2 start", NoSize, with_box(2, 2, 1)),
    ("many posts", TooGreat, lambda boxes, posts, rows: posts.extend(posted([1] * 4))),
    ("post 0 name", NoName, with_post(0, 0, "p ")),
    ("post 0 size", NoSize, with_post(0, 1, 0)),
    ("post 0 way", NoWay, with_post(0, 2, "off")),
    ("post 0 letter", NoSize, with_post(0, 3, 10)),
    ("post 1 name", NoName, with_post(1, 0, "")),
    ("post 1 name", Twice, with_post(1, 0, "p")),
    ("post 1 size", NoSize, with_post(1, 1, 10)),
    ("post 1 way", NoWay, with_post(1, 2, "")),
    ("post 1 letter", NoSize, with_post(1, 3, -1)),
    ("post 2 name", Twice, with_post(2, 0, "p")),
    ("post 2 way", NoWay, with_post(2, 2, "Back")),
    ("product", TooGreat, lambda boxes, posts, rows: posts.extend([("k", 9, "on", 0), ("l", 9, "held", 0)])),
    ("many rows", TooGreat, lambda boxes, posts, rows: rows.extend([("set", "a", 0)] * 37)),
    ("row 1", NoRow, lambda boxes, posts, rows: rows.insert(1, ("set", "a", 3))),
)


class TestOrder(HouseCase):
    def spoilt(self, faults):
        boxes, posts, rows = lists()
        for what, kind, spoil in faults:
            spoil(boxes, posts, rows)
        return self.refused(faults[0][1], boxes, posts, rows)

    def test_each_fault_alone(self):
        for fault in FAULTS:
            with self.subTest(fault[0]):
                self.spoilt((fault,))

    def test_two_and_three_faults_at_different_places(self):
        for many in (2, 3):
            for faults in combinations(FAULTS, many):
                if len({fault[0] for fault in faults}) == many:
                    with self.subTest([fault[0] for fault in faults]):
                        self.spoilt(faults)

    def test_a_later_name_is_looked_at_behind_an_earlier_size(self):
        self.refused(NoSize, [("a", 0, 0), ("", 2, 0)], [], [])
        self.refused(NoSize, [("a", 2, 2), ("a", 2, 0)], [], [])
        self.refused(NoWay, [], [("p", 2, "no", 0), ("", 2, "on", 0)], [])
        self.refused(NoSize, [], [("p", 2, "on", 2), ("p", 2, "on", 0)], [])

    def test_the_earlier_of_two_names_is_not_refused_as_told_twice(self):
        self.refused(NoName, [("A", 2, 0), ("A", 2, 0)], [], [])
        self.refused(NoSize, [("a", 0, 0), ("a", 2, 0)], [], [])

    def test_place_of_the_row_where_just_rows_are_bad(self):
        self.assertEqual(self.spoilt(FAULTS[-1:]).at, 1)


class TestOpenNames(unittest.TestCase):
    def test_in_their_order(self):
        posts = [
            ("z", 2, "back", 0), ("m", 2, "on", 0), ("a", 2, "back", 1), ("h", 2, "held", 0), ("k", 1, "back", 0),
        ]
        self.assertEqual(open_names(checked([], posts, [])), ["z", "a", "k"])
        self.assertEqual(open_names(checked([], posts[::-1], [])), ["k", "a", "z"])

    def test_none(self):
        self.assertEqual(open_names(checked([], [], [])), [])
        self.assertEqual(open_names(checked([], [("m", 2, "on", 0), ("h", 2, "held", 0)], [])), [])

    def test_a_box_is_no_post(self):
        self.assertEqual(open_names(checked([("back", 2, 0)], [("back", 2, "on", 0)], [])), [])

    def test_a_new_list_each_time(self):
        house = checked(*lists())
        told = open_names(house)
        self.assertIs(type(told), list)
        told.append("more")
        told[0] = "other"
        self.assertEqual(open_names(house), ["q"])
        self.assertEqual(house, (BOXES, POSTS, ROWS))


if __name__ == "__main__":
    unittest.main()
