"""Books: who gets the day runs, told by stretches of days."""

from outagain.checks import MOST_DAYS, ascending
from outagain.depots import Depot
from outagain.errors import BadBook, OutOfRange
from outagain.neighbours import front_pairs, join_neighbours, rear_pairs

MOST_STRETCHES = 400
MOST_ROWS = 400


class Book:
    """A book that never changes; neighbouring stretches have unlike runners."""

    def __init__(self, stretches):
        check_stretches(stretches)
        self.stretches = tuple(join_neighbours([(days, tuple(runners)) for days, runners in stretches]))
        self.days = sum([days for days, _ in self.stretches])

    def __eq__(self, other):
        return isinstance(other, Book) and self.stretches == other.stretches

    def __iter__(self):
        return iter(self.stretches)

    def __add__(self, other):
        if len(self.stretches) + len(other.stretches) > MOST_STRETCHES:
            raise BadBook(MOST_STRETCHES, "stretches")
        if self.days + other.days > MOST_DAYS:
            raise BadBook(0, "total")
        return Book(self.stretches + other.stretches)

    def runners_on(self, morning):
        """Who gets the day runs on this morning."""
        check_morning(self, morning)
        _, runners = self.tail(morning - 1).stretches[0]
        return runners

    def head(self, days):
        """The book of the first so many days."""
        check_part(self, days)
        return Book(front_pairs(self.stretches, days))

    def tail(self, days):
        """The book of what is behind the first so many days."""
        check_part(self, days)
        return Book(rear_pairs(self.stretches, days))

    def flipped(self):
        """The book with the stretches in reverse order."""
        return Book(self.stretches[::-1])

    def rows(self):
        """The runners of each day, for books that are not too long for it."""
        if self.days > MOST_ROWS:
            raise OutOfRange(self.days, "days")
        return [runners for days, runners in self.stretches for _ in range(days)]

    @staticmethod
    def of_rows(rows):
        """The book that has these runners, one entry for each day."""
        return Book([(1, runners) for runners in rows])


def check_stretches(stretches):
    """Raise BadBook if no book has these stretches."""
    if len(stretches) > MOST_STRETCHES:
        raise BadBook(MOST_STRETCHES, "stretches")
    total = 0
    for at, (days, runners) in enumerate(stretches):
        if not 1 <= days <= MOST_DAYS:
            raise BadBook(at, "days")
        if not ascending(runners, Depot.MOST_DRIVERS):
            raise BadBook(at, "runners")
        total = total + days
        if total > MOST_DAYS:
            raise BadBook(at, "total")


def check_morning(book, morning):
    """Raise OutOfRange if the book does not have this morning."""
    if not 1 <= morning <= book.days:
        raise OutOfRange(morning, "morning")


def check_part(book, days):
    """Raise OutOfRange if the book does not have so many days."""
    if not 0 <= days <= book.days:
        raise OutOfRange(days, "days")
