"""Names, and the rows of a day's work."""

# The parts that stand behind each word. Where a number or a table is told, the box that it is for comes first.
PARTS = {
    "set": ("box", "number"),
    "copy": ("box", "box"),
    "least": ("box", "box", "box"),
    "most": ("box", "box", "box"),
    "sum": ("box", "box", "box"),
    "pick": ("box", "box", "box", "box"),
    "turn": ("box", "table"),
    "send": ("post", "box"),
    "take": ("box", "post"),
}


def is_name(word):
    """Whether the text is a name: 1 to 8 small letters."""
    return 1 <= len(word) <= 8 and all(["a" <= sign <= "z" for sign in word])


def good_row(boxes, posts, row):
    """Whether the tuple is a row over these boxes and posts."""
    if not has_form(row):
        return False
    sizes = {box[0]: box[1] for box in boxes}
    names = [post[0] for post in posts]
    return all([good_part(sizes, names, row[1], kind, part) for kind, part in parts_of(row)])


def has_form(row):
    """Whether the tuple begins with a word of a row and has as many parts as that word wants."""
    return len(row) > 0 and row[0] in PARTS and len(row) == 1 + len(PARTS[row[0]])


def parts_of(row):
    """The parts behind the word of a row that has its form, as pairs (kind, part)."""
    return list(zip(PARTS[row[0]], row[1:]))


def good_part(sizes, names, first, kind, part):
    """Whether a part is of its kind, over the boxes' sizes by name, the posts' names and the row's first part."""
    if kind == "box":
        return part in sizes
    if kind == "post":
        return part in names
    if first not in sizes:
        return False
    if kind == "number":
        return is_below(part, sizes[first])
    return is_table(part, sizes[first])


def is_below(part, size):
    """Whether the part is a whole number from 0 to below the size."""
    return isinstance(part, int) and 0 <= part < size


def is_table(part, size):
    """Whether the part is a tuple of as many numbers as the size, each below it."""
    return isinstance(part, tuple) and len(part) == size and all([is_below(number, size) for number in part])
