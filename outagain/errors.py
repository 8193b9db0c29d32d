"""The errors of the program.

Only OutagainError has subclasses: a caller who catches one kind of error
never catches another kind with it.
"""


class OutagainError(ValueError):
    """Every error of the program."""


class OutOfRange(OutagainError):
    """A single number is not in its range."""

    def __init__(self, at, code):
        self.at = at
        self.code = code


class BadDepot(OutagainError):
    """There is no such depot."""

    def __init__(self, at, code):
        self.at = at
        self.code = code


class BadBook(OutagainError):
    """There is no such book, or it is not a book of the depot."""

    def __init__(self, at, code):
        self.at = at
        self.code = code


class BadLives(OutagainError):
    """No book has these lives."""

    def __init__(self, at, code):
        self.at = at
        self.code = code


class BadPasses(OutagainError):
    """This is no row of passes."""

    def __init__(self, at, code):
        self.at = at
        self.code = code


class BadCrews(OutagainError):
    """These are no crews."""

    def __init__(self, at, code):
        self.at = at
        self.code = code


class BadWish(OutagainError):
    """This is no row of weekdays, no order and no naming of drivers."""

    def __init__(self, at, code):
        self.at = at
        self.code = code


class BadBounds(OutagainError):
    """These are no lows and highs."""

    def __init__(self, at, code):
        self.at = at
        self.code = code


class BadNotes(OutagainError):
    """These are no notes."""

    def __init__(self, at, code):
        self.at = at
        self.code = code


class BadLists(OutagainError):
    """These are no lists for the weekdays."""

    def __init__(self, at, code):
        self.at = at
        self.code = code


class BadLine(OutagainError):
    """A script has a line that cannot be read."""

    def __init__(self, at, code):
        self.at = at
        self.code = code


class NoBook(OutagainError):
    """No book has what was asked for; the reason is a tuple."""

    def __init__(self, reason):
        self.reason = tuple(reason)


class GoalLost(OutagainError):
    """The goal of a desk could not be reached any more; the reason is a tuple."""

    def __init__(self, reason):
        self.reason = tuple(reason)


class NothingLeft(OutagainError):
    """There is nothing to take back, to do again, to drop or to advise."""
