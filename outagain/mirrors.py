"""Books and depots read backwards."""

from outagain.checks import check_days, check_passes
from outagain.depots import Depot
from outagain.judging import check_weekdays_dealt, marks_of
from outagain.walking import walk


def mirrored(depot, book):
    """The mirrored depot and the book read backwards."""
    after = walk(depot, book)
    return (mirrored_by_marks(depot, after.days, after.nexts), book.flipped())


def mirrored_depot(depot, days, passes):
    """The mirrored depot of all books of so many days with these passes."""
    check_days(days)
    check_passes(depot, passes)
    check_weekdays_dealt(depot, days, passes)
    return mirrored_by_marks(depot, days, marks_of(depot, passes))


def mirrored_by_marks(depot, days, marks):
    """The mirrored depot, by mornings that have the weekdays of the next mornings."""
    firsts = [(days + 1 - mark) % depot.period + 1 for mark in marks]
    return Depot(depot.period, depot.quota, firsts)
