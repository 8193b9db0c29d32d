"""Written lists: for each weekday an order of all drivers, by which those who report get the day runs."""

from outagain.books import MOST_ROWS, Book
from outagain.errors import BadLists, OutOfRange

MOST_TO_LEAD = 6
LONGEST_TO_LEAD = 6


def lead(depot, rows, days):
    """The led book of so many days."""
    check_small(depot)
    check_lists(depot, rows)
    if not 0 <= days <= MOST_ROWS:
        raise OutOfRange(days, "days")
    going, _ = led_mornings(depot, rows, depot.firsts, days)
    return Book.of_rows(going)


def check_small(depot):
    """Raise OutOfRange if the depot has more drivers or a longer period than lists are asked for."""
    if depot.size > MOST_TO_LEAD:
        raise OutOfRange(depot.size, "drivers")
    if depot.period > LONGEST_TO_LEAD:
        raise OutOfRange(depot.period, "period")


def check_lists(depot, rows):
    """Raise BadLists unless each weekday has a row that names each driver once."""
    if len(rows) != depot.period:
        raise BadLists(len(rows), "length")
    for weekday, row in enumerate(rows, 1):
        if sorted(row) != list(range(depot.size)):
            raise BadLists(weekday, "order")


def led_mornings(depot, rows, firsts, days):
    """The runners of each of so many mornings of the led standing with these firsts, and the next mornings."""
    nexts = list(firsts)
    going = []
    for morning in range(1, days + 1):
        row = rows[depot.weekday(morning) - 1]
        reporting = [driver for driver in row if nexts[driver] == morning]
        runners = sorted(reporting[:depot.quota])
        for driver in reporting:
            nexts[driver] = morning + (1 if driver in runners else depot.period)
        going.append(runners)
    return going, nexts
