"""Books and passes joined and cut, and depots turned."""

from outagain.books import Book
from outagain.checks import check_days, check_passes
from outagain.depots import Depot
from outagain.errors import OutOfRange
from outagain.judging import check_weekdays_dealt, marks_of
from outagain.longbooks import book_of_passes
from outagain.walking import After, walk


def linked(depot, *books):
    """What is known behind the books, each of which begins where the one ahead ended."""
    whole = walk(depot, Book([]))
    for book in books:
        whole = followed(depot, whole, walk(whole.standing(), book))
    return whole


def followed(depot, whole, part):
    """What is known behind the whole and then the part, which was walked from the standing behind the whole."""
    return After(depot, whole.days + part.days, added(whole.passes, part.passes),
                 added(whole.longs, part.longs), [whole.days + morning for morning in part.nexts])


def cut(depot, book, days):
    """The first so many days of the book, the standing behind them, and the rest of the book."""
    walk(depot, book)
    front = book.head(days)
    return (front, walk(depot, front).standing(), book.tail(days))


def cut_passes(depot, days, passes, front):
    """Passes for the first so many days, the standing behind them, and passes for the rest of the days."""
    check_days(days)
    check_passes(depot, passes)
    if not 0 <= front <= days:
        raise OutOfRange(front, "front")
    after = walk(depot, book_of_passes(depot, days, passes).head(front))
    rest = [whole - part for whole, part in zip(passes, after.passes)]
    return (list(after.passes), after.standing(), rest)


def turned(depot, days, passes):
    """The standing behind so many days with these passes."""
    check_days(days)
    check_passes(depot, passes)
    check_weekdays_dealt(depot, days, passes)
    firsts = [(mark - days - 1) % depot.period + 1 for mark in marks_of(depot, passes)]
    return Depot(depot.period, depot.quota, firsts)


def added(row, other):
    """The sums of two rows, entry by entry."""
    return [one + two for one, two in zip(row, other)]
