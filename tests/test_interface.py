"""That the names and arguments of the document's interface are there as written."""

import importlib
import inspect
import unittest

FUNCTIONS = {
    "rows": ("is_name(word)", "good_row(boxes, posts, row)"),
    "home": ("checked(boxes, posts, rows)", "open_names(house)"),
    "guesses": ("how_many(house)", "number_of(house, guess)", "guess_at(house, number)"),
    "day": ("trace(house, guess)", "sent(house, guess)"),
    "web": ("rings(house)", "road(house, guess)", "led(house, guess, many)"),
    "settle": (
        "settlings(house)", "quarrels(house, guess)", "nearest(house)", "fewest_holds(house)", "held(house, holds)",
        "letters_seen(house)",
    ),
    "climb": ("rises(house)", "climb(house)", "descend(house)"),
    "shares": ("share(top, bottom)", "plus(one, other)", "times(one, other)"),
    "mixes": (
        "mix(house, pairs)", "sent_on(house, pairs)", "long_run(house, pairs)", "of_weights(house, weights)",
        "stays(house, pairs)", "weights_of(house, pairs)",
    ),
    "hearing": ("hears(house)", "parts(house)", "pieces(house)", "trimmed(house)"),
    "joining": ("beside(one, other)", "renamed(house, box_names, post_names)"),
    "claims": ("upheld(house, claim)",),
    "page": ("write(house)", "read(text)"),
    "almanac": ("Almanac(house, guess)",),
    "book": ("Book(house)",),
}
METHODS = {
    ("almanac", "Almanac"): ("day()", "today()", "move_on(many)", "move_to(day)", "first_again()"),
    ("book", "Book"): (
        "now()", "put(at, row)", "cut(at)", "change(at, row)", "open_box(name, size, start)",
        "open_post(name, size, way, letter)", "shut_box(name)", "shut_post(name)", "set_way(name, way, letter)",
        "go_to(word)", "mark(word)", "undo()", "redo()", "depth()", "twin()", "sent(guess)", "rings()", "settlings()",
        "nearest()", "climb()",
    ),
}


def named(module, told):
    """What the module has under the name ahead of the arguments."""
    return getattr(importlib.import_module(f"yesterpost.{module}"), told.partition("(")[0])


class TestInterface(unittest.TestCase):
    def test_functions_and_classes(self):
        for module, all_told in FUNCTIONS.items():
            for told in all_told:
                thing = named(module, told)
                self.assertEqual(thing.__name__ + str(inspect.signature(thing)), told)
                self.assertEqual(thing.__module__, f"yesterpost.{module}")

    def test_methods_stand_in_the_class_itself(self):
        for (module, name), all_told in METHODS.items():
            kind = named(module, name)
            for told in all_told:
                method = vars(kind)[told.partition("(")[0]]
                wanted = told.replace("(", "(self, ").replace(", )", ")")
                self.assertEqual(method.__name__ + str(inspect.signature(method)), wanted)


if __name__ == "__main__":
    unittest.main()
