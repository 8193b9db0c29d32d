"""The deadline rule: a book for due weekdays and crews."""

from outagain.books import Book
from outagain.crews import check_fit, times_in


def book_of_crews(depot, days, due, crews):
    """A book of so many days with these due weekdays and crews."""
    check_fit(depot, days, due, crews)
    nexts = depot.firsts
    stretches = []
    for at, (times, crew) in enumerate(crews):
        limits = deadlines(depot, due, crews[at + 1:])
        rows, nexts = go_out(depot, nexts, crew, limits, depot.period)
        stretches.extend(rows)
        if times > 1:
            # Further rounds of the crew bring everybody back on the same weekday, so nexts stays.
            stretches.append(((times - 1) * depot.period, crew))
        nexts = [morning - depot.period for morning in nexts]
    rows, nexts = go_out(depot, nexts, (), due, days % depot.period)
    return Book(stretches + rows)


def deadlines(depot, due, later):
    """The deadline of each driver, when these crews are the later ones."""
    return [depot.period if times_in(later, driver) > 0 else due[driver] for driver in range(depot.size)]


def go_out(depot, nexts, crew, limits, days):
    """The first days of a round: a list of one stretch for each, and the next mornings behind them.

    The mornings are counted from 1 at the beginning of the round.
    """
    stretches = []
    coming = list(nexts)
    for morning in range(1, days + 1):
        reporting = [driver for driver in range(depot.size) if coming[driver] == morning]
        waiting = sorted([(limits[driver], driver) for driver in reporting if driver not in crew])
        leaving = [driver for _, driver in waiting[:depot.places[morning - 1]]]
        for driver in reporting:
            coming[driver] = morning + (depot.period if driver in leaving else 1)
        stretches.append((1, [driver for driver in reporting if driver not in leaving]))
    return stretches, coming
