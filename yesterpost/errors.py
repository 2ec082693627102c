"""The refusals, each kind by its own class."""


class HouseError(ValueError):
    """Any refusal."""


class NoName(HouseError):
    """A text that is no name, or a list with too many or too few of them."""


class Twice(HouseError):
    """A name that an earlier box or an earlier post has."""


class NoSize(HouseError):
    """A size, a start or a letter out of bounds."""


class NoWay(HouseError):
    """A text that is no way of a post."""


class TooGreat(HouseError):
    """More boxes, posts or rows than a house has, or too great a product of sizes."""


class NoRow(HouseError):
    """A row that isn't good; `at` is its place, counted from 0."""

    def __init__(self, at):
        super().__init__(f"no good row at place {at}")
        self.at = at


class NoGuess(HouseError):
    """What is no guess of the house, or the number of none."""


class NoCount(HouseError):
    """A day or a count of days below 0."""


class NotRising(HouseError):
    """A climb or a descent in a house that doesn't rise."""


class NoShare(HouseError):
    """A share with a bottom of 0."""


class NoMix(HouseError):
    """Shares or weights that make no mixture."""


class NotStill(HouseError):
    """A mixture that doesn't stay."""


class Clash(HouseError):
    """Two houses with one name for two boxes or two posts."""


class NoPage(HouseError):
    """A text that is no page; `at` is the number of its first wrong line, counted from 1."""

    def __init__(self, at):
        super().__init__(f"no page by line {at}")
        self.at = at


class NoPlace(HouseError):
    """A place at which there is no row."""


class NoBox(HouseError):
    """A name that no box has."""


class NoPost(HouseError):
    """A name that no post has."""


class InUse(HouseError):
    """A box or a post that a row tells."""


class NoMark(HouseError):
    """A word that marks no house."""


class NothingLeft(HouseError):
    """Nothing left to undo or to redo."""
