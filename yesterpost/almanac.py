"""An almanac that stands at a day."""

from yesterpost.web import check_count, come_to, walk


class Almanac:
    """The days of a guess, each at the guess that so many steps lead to."""

    def __init__(self, house, guess):
        # All days to come are among those walked, so that no later call goes through a day again.
        self.walked, self.turning = walk(house, guess)
        self.standing = 0

    def day(self):
        """The day at which it stands."""
        return self.standing

    def today(self):
        """The guess at which it stands."""
        return come_to(self.walked, self.turning, self.standing)

    def move_on(self, many):
        """Move on by so many days."""
        check_count(many)
        self.standing += many

    def move_to(self, day):
        """Move to the day, be it an earlier one."""
        check_count(day)
        self.standing = day

    def first_again(self):
        """The least two days whose guesses are alike."""
        return (self.turning, len(self.walked))
