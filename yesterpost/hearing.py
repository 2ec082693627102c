"""Which open posts are heard of where, and what of a house can be told or left out by that."""

from yesterpost.day import sent
from yesterpost.guesses import all_guesses
from yesterpost.home import open_names
from yesterpost.rows import parts_of

# A box and a post may have one name, so that either is told here as (kind, name).


def written(row):
    """What the row writes."""
    return parts_of(row)[0]


def read_by(row, ways):
    """What the row reads of the boxes and of the posts that pass on what they were sent, over the posts' ways."""
    if row[0] == "turn":
        return [written(row)]
    others = parts_of(row)[1:]
    return [(kind, name) for kind, name in others if kind == "box" or kind == "post" and ways[name] == "on"]


def ways_of(house):
    """The posts' ways by name."""
    return {post[0]: post[2] for post in house[1]}


def hears(house):
    """For each open post, the names of the open posts that it hears at the day's end."""
    names = open_names(house)
    ways = ways_of(house)
    heard = {}
    for row in house[2]:
        newly = newly_heard(row, ways, heard)
        # Each name is kept once: else a few rows would make the lists too long for any day.
        heard[written(row)] = [name for name in names if name in newly]
    return [heard.get(("post", name), []) for name in names]


def newly_heard(row, ways, heard):
    """The names that what the row writes hears behind it, a name perhaps several times."""
    if row[0] == "take" and ways[row[2]] == "back":
        return [row[2]]
    # A send to a held post needs no case: nothing reads what such a post was sent.
    return [name for thing in read_by(row, ways) for name in heard.get(thing, [])]


def parts(house):
    """The open posts in parts, those together that are led to one another by hearing."""
    names = open_names(house)
    firsts = {name: name for name in names}
    for name, told in zip(names, hears(house)):
        for other in told:
            firsts = joined(firsts, firsts[name], firsts[other])
    found = {}
    for name in names:
        found.setdefault(firsts[name], []).append(name)
    return list(found.values())


def joined(firsts, one, other):
    """The same, those that had the other now having the one."""
    return {name: one if firsts[name] == other else firsts[name] for name in firsts}


def pieces(house):
    """Each part with the tuples of letters that its posts send where they have them."""
    return [(names, settled_in(house, names)) for names in parts(house)]


def settled_in(house, names):
    """The tuples of letters that these posts, a part, send under every guess that has them there."""
    inside = [name in names for name in open_names(house)]
    outside = [not here for here in inside]
    found = []
    for guess in all_guesses(house):
        # No post of the part hears one outside, so that for each tuple the one guess of noughts there is enough.
        if not any(letters_where(outside, guess)):
            letters = letters_where(inside, guess)
            if letters_where(inside, sent(house, guess)) == letters:
                found.append(letters)
    return found


def letters_where(places, guess):
    """The letters of the guess for the posts that are True among the places."""
    return tuple([letter for letter, here in zip(guess, places) if here])


def trimmed(house):
    """The house without the rows that nothing sent hears of."""
    boxes, posts, rows = house
    ways = ways_of(house)
    wanted = [("post", name) for name in open_names(house)]
    kept = []
    for row in reversed(rows):
        thing = written(row)
        if thing in wanted:
            kept.append(row)
            wanted = [other for other in wanted if other != thing] + read_by(row, ways)
    return (boxes, posts, tuple(kept[::-1]))
