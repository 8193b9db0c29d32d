"""Written lists told back from a book that they may have led."""

from outagain.walking import long_runs, walk
from outagain.weeklists import check_small


def lists_of_book(depot, book):
    """("lists", rows) with lists that lead the book, or ("ring", weekday, drivers)."""
    check_small(depot)
    walk(depot, book)
    preferred = preferences(depot, book)
    rows = []
    for weekday in range(1, depot.period + 1):
        row = order_of(depot, preferred[weekday])
        if len(row) < depot.size:
            left = [driver for driver in range(depot.size) if driver not in row]
            return ("ring", weekday, ring_among(left, preferred[weekday]))
        rows.append(row)
    return ("lists", rows)


def preferences(depot, book):
    """For each weekday the pairs of drivers, the first of whom is preferred to the second one there."""
    preferred = {weekday: [] for weekday in range(1, depot.period + 1)}
    nexts = list(depot.firsts)
    behind = 1
    for days, runners in book.stretches:
        behind = behind + days
        for driver in range(depot.size):
            if driver in runners:
                nexts[driver] = behind
            elif nexts[driver] < behind:
                # All long runs of a stretch begin on the weekday of the first one.
                preferred[depot.weekday(nexts[driver])].extend([(runner, driver) for runner in runners])
                nexts[driver] = nexts[driver] + depot.period * long_runs(depot, nexts[driver], behind)
    return preferred


def order_of(depot, pairs):
    """The drivers in an order by the pairs, as far as there is one."""
    row = []
    left = list(range(depot.size))
    heads = left
    while heads:
        heads = [driver for driver in left if not better_ones(driver, left, pairs)]
        row.extend(heads)
        left = [driver for driver in left if driver not in heads]
    return tuple(row)


def better_ones(driver, drivers, pairs):
    """Those of the drivers who are preferred to this one."""
    return [other for other in drivers if (other, driver) in pairs]


def ring_among(drivers, pairs):
    """A ring among drivers to each of whom another one of them is preferred."""
    path = [drivers[0]]
    while path[-1] not in path[:-1]:
        path.append(better_ones(path[-1], drivers, pairs)[0])
    begin = path.index(path[-1])
    ring = path[begin + 1:]
    return tuple(ring[::-1])
