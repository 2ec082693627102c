"""A day under a guess, done row by row."""

from yesterpost.guesses import check_guess
from yesterpost.home import open_names


class Day:
    """What the boxes hold and what the posts bear, by name in their orders, while the rows are done."""

    def __init__(self, house, guess):
        check_guess(house, guess)
        boxes, posts, rows = house
        self.box_sizes = {name: size for name, size, start in boxes}
        self.numbers = {name: start for name, size, start in boxes}
        # Held posts are left out here: they bear their letters whatever is sent.
        self.post_sizes = {name: size for name, size, way, letter in posts if way != "held"}
        self.letters = {name: letter for name, size, way, letter in posts}
        self.guessed = {name: letter for name, letter in zip(open_names(house), guess)}

    def shown(self):
        """The pair of what the boxes hold and what the posts bear."""
        return (tuple(self.numbers.values()), tuple(self.letters.values()))

    def do_row(self, row):
        """Do one row."""
        if row[0] == "send":
            self.send_letter(row[1], row[2])
        else:
            self.numbers[row[1]] = self.new_number(row)

    def send_letter(self, post, box):
        """Let the post bear the box's number, unless it is held."""
        if post in self.post_sizes:
            self.letters[post] = fitted(self.numbers[box], self.post_sizes[post])

    def new_number(self, row):
        """The number that the row gives its box."""
        word = row[0]
        size = self.box_sizes[row[1]]
        if word == "set":
            return row[2]
        if word == "turn":
            return row[2][self.numbers[row[1]]]
        if word == "take":
            return fitted(self.letter_out(row[2]), size)
        read = [self.numbers[name] for name in row[2:]]
        if word == "sum":
            return sum(read) % size
        return fitted(chosen(word, read), size)

    def letter_out(self, post):
        """The letter that the post gives out now."""
        if post in self.guessed:
            return self.guessed[post]
        return self.letters[post]


def fitted(number, size):
    """The number fitted to the size."""
    return min(number, size - 1)


def chosen(word, read):
    """The one that the row's word chooses of the numbers read."""
    if word == "least":
        return min(read)
    if word == "most":
        return max(read)
    if word == "pick":
        return read[1] if read[0] == 0 else read[2]
    return read[0]


def trace(house, guess):
    """What the boxes hold and what the posts bear, at the beginning and behind each row."""
    day = Day(house, guess)
    told = [day.shown()]
    for row in house[2]:
        day.do_row(row)
        told.append(day.shown())
    return told


def sent(house, guess):
    """The letters that the open posts bear at the day's end."""
    day = Day(house, guess)
    for row in house[2]:
        day.do_row(row)
    return tuple([day.letters[name] for name in open_names(house)])
