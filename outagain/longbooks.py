"""Crews and books for possible passes, also for very many days."""

from outagain.deadlines import book_of_crews
from outagain.judging import check_possible, due_of, marks_of
from outagain.neighbours import join_neighbours


def book_of_passes(depot, days, passes):
    """A book of so many days with these passes."""
    crews = crews_of_passes(depot, days, passes)
    return book_of_crews(depot, days, due_of(depot, passes), crews)


def crews_of_passes(depot, days, passes):
    """Crews that fit the due weekdays of the passes, each driver as often as the passes tell."""
    check_possible(depot, days, passes)
    closings = depot.closings(days)
    if closings == 0:
        return []
    needs = crew_counts(depot, passes)
    last = last_crew(depot, days, due_of(depot, passes), needs)
    rest = [need - (1 if driver in last else 0) for driver, need in enumerate(needs)]
    return join_neighbours(shared_crews(depot.quota, closings - 1, rest) + [(1, last)])


def crew_counts(depot, passes):
    """In how many crews each driver is."""
    return [(mark - 1) // depot.period for mark in marks_of(depot, passes)]


def last_crew(depot, days, due, needs):
    """Those with the greatest needs among the drivers who may be in the crew of the last closing."""
    last = depot.last_weekday(days)
    ranked = sorted([(-needs[driver], driver) for driver in range(depot.size) if due[driver] <= last])
    return tuple(sorted([driver for _, driver in ranked[:depot.quota]]))


def shared_crews(quota, closings, needs):
    """Crews for so many closings in which each driver is as often as needed, at most once in each.

    The drivers are written behind one another into one line, which is cut into as many equal pieces
    as the quota; nobody needs more than one piece holds, so nobody meets itself in a crew.
    """
    begins = []
    total = 0
    for need in needs:
        begins.append(total)
        total = total + need
    if closings == 0:
        return []
    cuts = sorted({begin % closings for begin in begins})
    rows = []
    for at, cut in enumerate(cuts):
        behind = cuts[at + 1] if at + 1 < len(cuts) else closings
        cells = [piece * closings + cut for piece in range(quota)]
        crew = [driver for driver, need in enumerate(needs)
                if [cell for cell in cells if begins[driver] <= cell < begins[driver] + need]]
        rows.append((behind - cut, tuple(crew)))
    return rows
