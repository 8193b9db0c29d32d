"""Crews: who gets the day runs on the closings, and what fits due weekdays."""

from outagain.checks import ascending, check_days, check_due
from outagain.errors import BadCrews, NoBook
from outagain.judging import weekday_reasons
from outagain.neighbours import join_neighbours
from outagain.walking import walk

MOST_ROWS = 40
FIT = ("fit",)


def crews_seen(depot, book):
    """The crews of a book of the depot, as a list of pairs (times, crew)."""
    walk(depot, book)
    rows = []
    days = 0
    for many, runners in book.stretches:
        times = depot.closings(days + many) - depot.closings(days)
        if times > 0:
            rows.append((times, runners))
        days = days + many
    return join_neighbours(rows)


def crews_fault(depot, days, due, crews):
    """Why no book of so many days has these due weekdays and crews, or FIT."""
    check_days(days)
    check_due(depot, due)
    check_crews(depot, days, crews)
    faults = (weekday_reasons(depot, days, due) + back_faults(depot, due, crews)
              + last_faults(depot, days, due, crews))
    return faults[0] if faults else FIT


def passes_of_crews(depot, days, due, crews):
    """The list of passes of the books with these due weekdays and crews."""
    check_fit(depot, days, due, crews)
    return [due[driver] - depot.firsts[driver] + depot.period * times_in(crews, driver)
            for driver in range(depot.size)]


def check_fit(depot, days, due, crews):
    """Raise NoBook if the due weekdays and crews do not fit."""
    fault = crews_fault(depot, days, due, crews)
    if fault != FIT:
        raise NoBook(fault)


def check_crews(depot, days, crews):
    """Raise BadCrews if these are no crews for the closings of so many days."""
    if len(crews) > MOST_ROWS:
        raise BadCrews(MOST_ROWS, "rows")
    total = 0
    for at, (times, crew) in enumerate(crews):
        if times < 1:
            raise BadCrews(at, "times")
        if len(crew) != depot.quota or not ascending(crew, depot.size):
            raise BadCrews(at, "crew")
        total = total + times
    if total != depot.closings(days):
        raise BadCrews(total, "total")


def times_in(crews, driver):
    """How many crews have the driver."""
    return sum([times for times, crew in crews if driver in crew])


def back_faults(depot, due, crews):
    """A fault for each driver who goes back without being in any crew."""
    return [("back", driver) for driver in range(depot.size)
            if due[driver] < depot.firsts[driver] and times_in(crews, driver) == 0]


def last_faults(depot, days, due, crews):
    """A fault for each driver of the last crew who is due above the last weekday."""
    if not crews:
        return []
    _, crew = crews[-1]
    return [("last", driver) for driver in crew if due[driver] > depot.last_weekday(days)]
