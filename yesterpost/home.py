"""Houses: boxes, posts and rows that were found good."""

from yesterpost.errors import NoName, NoPost, NoRow, NoSize, NoWay, TooGreat, Twice
from yesterpost.rows import good_row, is_name

MOST_BOXES = 8
MOST_POSTS = 6
MOST_ROWS = 40
MOST_SIZE = 9
MOST_PRODUCT = 256
WAYS = ("on", "back", "held")

# No refusal shows a number that was handed in: Python refuses to write out one of very many figures.


def checked(boxes, posts, rows):
    """The house of these boxes, posts and rows, or the first refusal."""
    check_boxes(boxes)
    check_posts(posts)
    check_rows(boxes, posts, rows)
    return (tuple(boxes), tuple(posts), tuple(rows))


def check_boxes(boxes):
    """Refuse too many boxes, and the first box that isn't good."""
    if len(boxes) > MOST_BOXES:
        raise TooGreat(f"more than {MOST_BOXES} boxes")
    for at, (name, size, start) in enumerate(boxes):
        check_name(name, boxes[:at])
        check_size(size)
        check_below(start, size)


def check_posts(posts):
    """Refuse too many posts, the first post that isn't good, and too great a product of sizes."""
    if len(posts) > MOST_POSTS:
        raise TooGreat(f"more than {MOST_POSTS} posts")
    for at, (name, size, way, letter) in enumerate(posts):
        check_name(name, posts[:at])
        check_size(size)
        check_way(way)
        check_below(letter, size)
    if product_of([post[1] for post in posts]) > MOST_PRODUCT:
        raise TooGreat(f"the posts' sizes have a product above {MOST_PRODUCT}")


def check_rows(boxes, posts, rows):
    """Refuse too many rows, and the first row that isn't good."""
    if len(rows) > MOST_ROWS:
        raise TooGreat(f"more than {MOST_ROWS} rows")
    for at, row in enumerate(rows):
        if not good_row(boxes, posts, row):
            raise NoRow(at)


def check_name(name, earlier):
    """Refuse what is no name, and a name that one of the earlier boxes or posts has."""
    if not is_name(name):
        raise NoName(f"{name!r} is no name")
    if name in [thing[0] for thing in earlier]:
        raise Twice(f"{name!r} is there twice")


def check_size(size):
    """Refuse a size out of bounds."""
    if not 1 <= size <= MOST_SIZE:
        raise NoSize(f"a size is from 1 to {MOST_SIZE}")


def check_way(way):
    """Refuse what is no way of a post."""
    if way not in WAYS:
        raise NoWay(f"{way!r} is no way")


def check_below(number, size):
    """Refuse a start or a letter that isn't from 0 to below the size."""
    if not 0 <= number < size:
        raise NoSize("a start or a letter is from 0 to below the size")


def product_of(sizes):
    """The product of the sizes; 1 where there are none."""
    product = 1
    for size in sizes:
        product *= size
    return product


def open_posts(house):
    """The posts that give a letter out ahead of its sending, in their order."""
    return [post for post in house[1] if post[2] == "back"]


def open_names(house):
    """The names of the open posts, in their order."""
    return [post[0] for post in open_posts(house)]


def with_way(posts, name, way, letter):
    """The posts, the named one with this way and this letter."""
    names = [post[0] for post in posts]
    if name not in names:
        raise NoPost(f"no post has the name {name!r}")
    at = names.index(name)
    size = posts[at][1]
    check_way(way)
    check_below(letter, size)
    return posts[:at] + ((name, size, way, letter),) + posts[at + 1:]
