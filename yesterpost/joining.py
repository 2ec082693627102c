"""Two houses as one, and houses under other names."""

from yesterpost.errors import Clash, NoName
from yesterpost.home import checked
from yesterpost.rows import parts_of


def beside(one, other):
    """The house of the one's boxes, posts and rows and, behind them, the other's."""
    for mine, yours in zip(one[:2], other[:2]):
        check_apart(mine, yours)
    boxes, posts, rows = [mine + yours for mine, yours in zip(one, other)]
    return checked(boxes, posts, rows)


def check_apart(mine, yours):
    """Refuse boxes, or posts, of two houses where two of them have one name."""
    names = [thing[0] for thing in mine]
    for thing in yours:
        if thing[0] in names:
            raise Clash(f"both houses have a {thing[0]!r}")


def renamed(house, box_names, post_names):
    """The house under new names for its boxes and its posts, in their orders."""
    boxes, posts, rows = house
    if len(box_names) != len(boxes) or len(post_names) != len(posts):
        raise NoName("there is one new name for each box and each post")
    names = {
        "box": {box[0]: new for box, new in zip(boxes, box_names)},
        "post": {post[0]: new for post, new in zip(posts, post_names)},
    }
    return checked(
        [(new, size, start) for new, (name, size, start) in zip(box_names, boxes)],
        [(new, size, way, letter) for new, (name, size, way, letter) in zip(post_names, posts)],
        [row_renamed(row, names) for row in rows],
    )


def row_renamed(row, names):
    """The row with the new names, by kind and old name, of the boxes and posts that it tells."""
    told = [row[0]]
    for kind, part in parts_of(row):
        told.append(names[kind][part] if kind in names else part)
    return tuple(told)
