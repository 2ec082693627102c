"""A book that keeps one house through deeds."""

from yesterpost.climb import climb
from yesterpost.day import sent
from yesterpost.errors import InUse, NoBox, NoMark, NoPlace, NoPost, NothingLeft
from yesterpost.home import checked, with_way
from yesterpost.rows import parts_of
from yesterpost.settle import nearest, settlings
from yesterpost.web import rings


class Book:
    """The present house, those ahead of the deeds done and behind those undone, and those that were marked."""

    def __init__(self, house):
        self.present = house
        self.done = []
        self.undone = []
        self.marked = {}

    def now(self):
        """The present house."""
        return self.present

    def enter(self, house):
        """Make this the present house, as a deed."""
        self.done.append(self.present)
        self.undone = []
        self.present = house

    def put(self, at, row):
        """Put a row ahead of the row at the place, or at the end."""
        boxes, posts, rows = self.present
        check_place(at, len(rows) + 1)
        self.enter(checked(boxes, posts, rows[:at] + (row,) + rows[at:]))

    def cut(self, at):
        """Take out the row at the place."""
        boxes, posts, rows = self.present
        check_place(at, len(rows))
        self.enter((boxes, posts, rows[:at] + rows[at + 1:]))

    def change(self, at, row):
        """Put another row in the place of the one there."""
        boxes, posts, rows = self.present
        check_place(at, len(rows))
        self.enter(checked(boxes, posts, rows[:at] + (row,) + rows[at + 1:]))

    def open_box(self, name, size, start):
        """Put a box behind the others."""
        boxes, posts, rows = self.present
        self.enter(checked(boxes + ((name, size, start),), posts, rows))

    def open_post(self, name, size, way, letter):
        """Put a post behind the others."""
        boxes, posts, rows = self.present
        self.enter(checked(boxes, posts + ((name, size, way, letter),), rows))

    def shut_box(self, name):
        """Take out the box of the name, which no row tells."""
        boxes, posts, rows = self.present
        if name not in [box[0] for box in boxes]:
            raise NoBox(f"no box has the name {name!r}")
        check_unused(rows, ("box", name))
        self.enter((tuple([box for box in boxes if box[0] != name]), posts, rows))

    def shut_post(self, name):
        """Take out the post of the name, which no row tells."""
        boxes, posts, rows = self.present
        if name not in [post[0] for post in posts]:
            raise NoPost(f"no post has the name {name!r}")
        check_unused(rows, ("post", name))
        self.enter((boxes, tuple([post for post in posts if post[0] != name]), rows))

    def set_way(self, name, way, letter):
        """Give the post of the name another way and letter."""
        boxes, posts, rows = self.present
        self.enter((boxes, with_way(posts, name, way, letter), rows))

    def go_to(self, word):
        """Make the present house the one that the word marks."""
        if word not in self.marked:
            raise NoMark("the word marks no house")
        self.enter(self.marked[word])

    def mark(self, word):
        """Keep the present house under the word."""
        self.marked[word] = self.present

    def undo(self):
        """Go back to the house ahead of the last deed not undone."""
        if len(self.done) == 0:
            raise NothingLeft("there is no deed to undo")
        self.undone.append(self.present)
        self.present = self.done.pop()

    def redo(self):
        """Go on to the house behind the last deed undone."""
        if len(self.undone) == 0:
            raise NothingLeft("there is no deed to redo")
        self.done.append(self.present)
        self.present = self.undone.pop()

    def depth(self):
        """How many deeds can be undone, and how many redone."""
        return (len(self.done), len(self.undone))

    def twin(self):
        """Another book with the same house, deeds and marks."""
        other = Book(self.present)
        other.done = list(self.done)
        other.undone = list(self.undone)
        other.marked = dict(self.marked)
        return other

    def sent(self, guess):
        """What is sent under the guess in the present house."""
        return sent(self.present, guess)

    def rings(self):
        """The rings of the present house."""
        return rings(self.present)

    def settlings(self):
        """The guesses that settle in the present house."""
        return settlings(self.present)

    def nearest(self):
        """The nearest guess of the present house."""
        return nearest(self.present)

    def climb(self):
        """The climb in the present house."""
        return climb(self.present)


def check_place(at, many):
    """Refuse a place that isn't among so many."""
    if not 0 <= at < many:
        raise NoPlace("there is no such place")


def check_unused(rows, thing):
    """Refuse the box or the post, told as (kind, name), where a row tells it."""
    if any([thing in parts_of(row) for row in rows]):
        raise InUse(f"a row tells the {thing[0]} {thing[1]!r}")
