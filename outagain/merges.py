"""Depots and their books merged, parted, and with their drivers in another order."""

from outagain.books import Book
from outagain.depots import Depot
from outagain.errors import BadBook, BadDepot, BadWish, NoBook
from outagain.lives import book_of_lives, lives
from outagain.walking import walk


def merged(*depots):
    """The depot that has the drivers of all the depots, one depot behind another."""
    if not depots:
        raise BadDepot(0, "none")
    period = depots[0].period
    for at, depot in enumerate(depots):
        if depot.period != period:
            raise BadDepot(at, "period")
    firsts = [first for depot in depots for first in depot.firsts]
    return Depot(period, sum([depot.quota for depot in depots]), firsts)


def merged_book(depots, books):
    """The book of the merged depot in which everybody goes as in these books of the depots."""
    whole = merged(*depots)
    if len(books) != len(depots):
        raise BadBook(len(books), "length")
    rows = []
    for depot, book in zip(depots, books):
        rows.extend(lives(depot, book))
    days = books[0].days
    for at, book in enumerate(books):
        if book.days != days:
            raise BadBook(at, "days")
    return book_of_lives(whole, days, rows)


def parted(depots, book):
    """The books of the depots that make up a book of the merged depot."""
    walk(merged(*depots), book)
    begins = [sum([other.size for other in depots[:at]]) for at in range(len(depots))]
    rows = [[] for _ in depots]
    for number, (days, runners) in enumerate(book.stretches):
        for at, depot in enumerate(depots):
            own = [driver - begins[at] for driver in runners if 0 <= driver - begins[at] < depot.size]
            if len(own) != depot.quota:
                raise NoBook(("mixed", number, at))
            rows[at].append((days, own))
    return [Book(stretches) for stretches in rows]


def renamed(depot, order):
    """The depot whose driver k is the driver order[k] of this one."""
    check_order(depot, order)
    return Depot(depot.period, depot.quota, [depot.firsts[driver] for driver in order])


def renamed_book(depot, book, order):
    """The book for the renamed depot; it need not be a book of the depot."""
    for at, (_, runners) in enumerate(book.stretches):
        if [driver for driver in runners if driver >= depot.size]:
            raise BadBook(at, "driver")
    check_order(depot, order)
    return Book([(days, [name for name, driver in enumerate(order) if driver in runners])
                 for days, runners in book.stretches])


def check_order(depot, order):
    """Raise BadWish if the order does not name each driver of the depot once."""
    if len(order) != depot.size:
        raise BadWish(len(order), "length")
    for at, driver in enumerate(order):
        if not 0 <= driver < depot.size or driver in order[:at]:
            raise BadWish(at, "order")
