"""Pages: houses told as texts, a line for each box, post and row."""

from yesterpost.errors import HouseError, NoPage
from yesterpost.home import checked


def write(house):
    """The page of the house."""
    boxes, posts, rows = house
    told = [("box",) + box for box in boxes] + [("post",) + post for post in posts] + list(rows)
    return "\n".join([line_of(parts) for parts in told])


def line_of(parts):
    """The line of these parts, a table's numbers one by one."""
    words = []
    for part in parts:
        words.extend(part if isinstance(part, tuple) else [part])
    return " ".join([str(word) for word in words])


def read(text):
    """The house of the page."""
    house = checked([], [], [])
    # The page without signs has no line, not even one without signs.
    lines = text.split("\n") if text != "" else []
    for at, line in enumerate(lines, start=1):
        words = line.split(" ")
        if not in_place(house, words):
            raise NoPage(at)
        try:
            house = with_line(house, words)
        except HouseError:
            raise NoPage(at) from None
    return house


def in_place(house, words):
    """Whether a line of a box or a post has as many words as it wants and stands in its order."""
    boxes, posts, rows = house
    if words[0] == "box":
        return len(words) == 4 and len(posts) + len(rows) == 0
    if words[0] == "post":
        return len(words) == 5 and len(rows) == 0
    # Of a row everything is told by whether it is good.
    return True


def with_line(house, words):
    """The house with what one line more tells, or its refusal."""
    boxes, posts, rows = house
    if words[0] == "box":
        return checked(boxes + ((words[1], figure(words[2]), figure(words[3])),), posts, rows)
    if words[0] == "post":
        return checked(boxes, posts + ((words[1], figure(words[2]), words[3], figure(words[4])),), rows)
    return checked(boxes, posts, rows + (row_of(words),))


def row_of(words):
    """The tuple of a row's words, no good row where the line is none."""
    if words[0] == "turn":
        return tuple(words[:2]) + (figures(words[2:]),)
    if words[0] == "set":
        return tuple(words[:2]) + figures(words[2:])
    return tuple(words)


def figures(words):
    """The numbers of the words."""
    return tuple([figure(word) for word in words])


def figure(word):
    """The number that is written by one figure, or -1, which is out of all bounds, where the word isn't that."""
    return int(word) if word in list("0123456789") else -1
