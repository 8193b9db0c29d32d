"""A desk: a book that grows, with a goal, and deeds that can be taken back."""

from outagain.books import Book, check_morning
from outagain.checks import MOST_DAYS, check_driver, check_passes
from outagain.errors import BadBook, GoalLost, NoBook, NothingLeft, OutOfRange
from outagain.joins import followed
from outagain.judging import POSSIBLE, judge
from outagain.neighbours import front_pairs, join_neighbours, rear_pairs
from outagain.walking import walk
from outagain.wishes import least_day


class Desk:
    """A depot whose book grows by deeds.

    The book, what is known behind its walk, and the goal are one tuple. Deeds put another tuple in its
    place and keep the older one, so that every kind of deed is taken back and done again alike.
    """

    def __init__(self, depot):
        self._depot = depot
        self._now = (Book([]), walk(depot, Book([])), None)
        self._past = []
        self._ahead = []

    @property
    def today(self):
        """The number of days of the book."""
        return self._now[0].days

    @property
    def goal(self):
        """The pair (days, passes), or None."""
        return self._now[2]

    def send(self, runners, days=1):
        """Put a stretch behind the book."""
        self.send_all([(days, runners)])

    def send_all(self, stretches):
        """Put stretches behind the book, one behind another, by one deed."""
        book, after = self._grown(stretches)
        if stretches:
            self._settle(book, after, self.goal)

    def exchange(self, morning, one, other):
        """Give two drivers each other's entries from a morning on which both report."""
        book, _, _ = self._now
        check_morning(book, morning)
        check_driver(self._depot, one)
        check_driver(self._depot, other)
        nexts = walk(self._depot, book.head(morning - 1)).nexts
        if nexts[one] != morning or nexts[other] != morning:
            raise BadBook(morning, "apart")
        names = {one: other, other: one}
        rear = [(days, tuple(sorted([names.get(driver, driver) for driver in runners])))
                for days, runners in rear_pairs(book.stretches, morning - 1)]
        self._rewrite(front_pairs(book.stretches, morning - 1) + rear)

    def amend(self, morning, runners):
        """Put other runners in the place of those of one morning."""
        book, _, _ = self._now
        check_morning(book, morning)
        piece = Book([(1, runners)])
        front = front_pairs(book.stretches, morning - 1)
        self._rewrite(front + list(piece.stretches) + rear_pairs(book.stretches, morning))

    def set_goal(self, days, passes):
        """Set the goal to have these passes behind so many days."""
        reason = self.verdict(days, passes)
        if reason != POSSIBLE:
            raise NoBook(reason)
        book, after, _ = self._now
        self._settle(book, after, (days, tuple(passes)))

    def drop_goal(self):
        """Take the goal away."""
        book, after, goal = self._now
        if goal is None:
            raise NothingLeft()
        self._settle(book, after, None)

    def undo(self):
        """Take back the last deed."""
        if not self._past:
            raise NothingLeft()
        self._ahead.append(self._now)
        self._now = self._past.pop()

    def redo(self):
        """Do the deed again that was taken back last."""
        if not self._ahead:
            raise NothingLeft()
        self._past.append(self._now)
        self._now = self._ahead.pop()

    def book(self):
        """The Book."""
        return self._now[0]

    def after(self):
        """What is known behind the walk of the book."""
        return self._now[1]

    def standing(self):
        """The depot that goes on from the present."""
        return self.after().standing()

    def verdict(self, days, passes):
        """The verdict of passes behind so many days, from the present."""
        if not self.today <= days <= MOST_DAYS:
            raise OutOfRange(days, "days")
        check_passes(self._depot, passes)
        return reason_from(self.after(), days, passes)

    def can_send(self, runners, days=1):
        """True if send would take the runners now."""
        try:
            self._grown([(days, runners)])
            return True
        except (BadBook, GoalLost):
            return False

    def advice(self):
        """Runners for the next morning that can be sent under the goal."""
        _, after, goal = self._now
        if goal is None or goal[0] == after.days:
            raise NothingLeft()
        rests = rests_of(after, goal[1])
        reporting = [driver for driver, morning in enumerate(after.nexts) if morning == after.days + 1]
        ranked = sorted([(-rests[driver], driver) for driver in reporting])
        return tuple(sorted([driver for _, driver in ranked[:self._depot.quota]]))

    def soonest(self, wish):
        """("least", days, due) with the least day of the wish from the present, or ("never",)."""
        answer = least_day(self.standing(), wish)
        if answer[0] == "never":
            return answer
        _, days, due = answer
        return ("least", self.today + days, due)

    def _grown(self, stretches):
        """The book with these stretches behind it, and what is known behind its walk."""
        book, after, goal = self._now
        for at, (days, runners) in enumerate(stretches):
            piece, part = sent_piece(after.standing(), at, days, runners)
            book = book + piece
            after = followed(self._depot, after, part)
            check_goal(after, goal)
        return (book, after)

    def _rewrite(self, stretches):
        """Put a changed book in the place of the book."""
        book = Book(join_neighbours(stretches))
        after = walk(self._depot, book)
        check_goal(after, self.goal)
        self._settle(book, after, self.goal)

    def _settle(self, book, after, goal):
        """Keep what a deed leads to."""
        self._past.append(self._now)
        self._ahead = []
        self._now = (book, after, goal)


def sent_piece(standing, at, days, runners):
    """The book of one stretch, and what is known behind its walk; at is its index for the errors."""
    try:
        piece = Book([(days, runners)])
        return (piece, walk(standing, piece))
    except BadBook as bad:
        raise BadBook(at, bad.code)


def check_goal(after, goal):
    """Raise GoalLost if there is a goal and it cannot be reached from here."""
    if goal is None:
        return
    days, passes = goal
    if after.days > days:
        raise GoalLost(("days",))
    reason = reason_from(after, days, passes)
    if reason != POSSIBLE:
        raise GoalLost(reason)


def reason_from(after, days, passes):
    """The reason of passes behind so many days, counted from the beginning of the book, or POSSIBLE."""
    rests = rests_of(after, passes)
    gone = [driver for driver, rest in enumerate(rests) if rest < 0]
    if gone:
        return ("gone", gone[0])
    return judge(after.standing(), days - after.days, rests)


def rests_of(after, passes):
    """The passes less those of the book so far."""
    return [told - had for told, had in zip(passes, after.passes)]
