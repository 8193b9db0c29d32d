"""Lives: the runs of each driver, one behind another, and the way back to the book."""

from outagain.books import Book
from outagain.checks import check_days
from outagain.errors import BadLives
from outagain.neighbours import join_neighbours
from outagain.walking import long_runs, walk


def lives(depot, book):
    """The life of each driver in a book of the depot."""
    walk(depot, book)
    return [life_of(depot, book, driver) for driver in range(depot.size)]


def life_of(depot, book, driver):
    """The life of one driver, for a book that has been found to be one of the depot."""
    pieces = []
    morning = depot.firsts[driver]
    behind = 1
    for days, runners in book.stretches:
        behind = behind + days
        if driver in runners:
            pieces.append((days, "D"))
            morning = behind
        elif morning < behind:
            runs = long_runs(depot, morning, behind)
            pieces.append((runs, "L"))
            morning = morning + runs * depot.period
    return [(letter, runs) for runs, letter in join_neighbours(pieces)]


def book_of_lives(depot, days, rows):
    """The book of so many days in which the drivers have these lives."""
    check_days(days)
    if len(rows) != depot.size:
        raise BadLives(len(rows), "length")
    spans = []
    for driver, life in enumerate(rows):
        spans.extend(day_spans(depot, days, driver, life))
    return Book(stretches_of_spans(depot, days, spans))


def day_spans(depot, days, driver, life):
    """The day runs of a good life as triples (driver, first morning, morning behind)."""
    spans = []
    morning = depot.firsts[driver]
    for letter, runs in life:
        if letter not in ("D", "L") or runs < 1:
            raise BadLives(driver, "piece")
        step = 1 if letter == "D" else depot.period
        behind = morning + runs * step
        if behind - step > days:
            raise BadLives(driver, "long")
        if letter == "D":
            spans.append((driver, morning, behind))
        morning = behind
    if morning <= days:
        raise BadLives(driver, "short")
    return spans


def stretches_of_spans(depot, days, spans):
    """The stretches of the book in which just these spans of day runs go out."""
    turns = turns_of_spans(days, spans)
    cuts = sorted(turns)
    going = [0] * depot.size
    stretches = []
    for at in range(len(cuts) - 1):
        for driver, change in turns[cuts[at]]:
            going[driver] = going[driver] + change
        runners = [driver for driver in range(depot.size) if going[driver] > 0]
        if len(runners) != depot.quota:
            raise BadLives(cuts[at], "count")
        stretches.append((cuts[at + 1] - cuts[at], runners))
    return join_neighbours(stretches)


def turns_of_spans(days, spans):
    """Which drivers begin (1) and end (-1) spans on which mornings, from 1 to the one behind the days."""
    turns = {1: [], days + 1: []}
    for driver, first, behind in spans:
        turns.setdefault(first, []).append((driver, 1))
        turns.setdefault(behind, []).append((driver, -1))
    return turns
