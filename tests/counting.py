"""The rules of the document followed morning by morning, without the program's own counting.

A world is a pair (nexts, passes) of tuples: where a depot can stand behind some days.
"""

import itertools


def follow(period, quota, firsts, rows):
    """Follow every driver through the rows, the runners of each morning, from morning 1 on.

    Gives (passes, longs, nexts, reports, lives), or the pair (morning, code) of the first misfit.
    Lives are strings of letters, one letter for each run.
    """
    size = len(firsts)
    passes, longs, nexts = [0] * size, [0] * size, list(firsts)
    reports, lives = [], [""] * size
    for morning, runners in enumerate(rows, 1):
        reporting = tuple(driver for driver in range(size) if nexts[driver] == morning)
        if any(driver >= size for driver in runners):
            return morning, "driver"
        if len(runners) != quota:
            return morning, "count"
        if any(driver not in reporting for driver in runners):
            return morning, "away"
        reports.append(reporting)
        for driver in reporting:
            if driver in runners:
                passes[driver] += 1
                lives[driver] += "D"
                nexts[driver] = morning + 1
            else:
                longs[driver] += 1
                lives[driver] += "L"
                nexts[driver] = morning + period
    return tuple(passes), tuple(longs), tuple(nexts), reports, lives


def all_books(period, quota, firsts, days):
    """The rows of all books of so many days."""
    books = [((), tuple(firsts))]
    for morning in range(1, days + 1):
        grown = []
        for rows, nexts in books:
            for runners, later in choices(period, quota, nexts, morning):
                grown.append((rows + (runners,), later))
        books = grown
    return [rows for rows, _ in books]


def choices(period, quota, nexts, morning):
    """All pairs (runners, next mornings) that one morning can bring."""
    reporting = [driver for driver in range(len(nexts)) if nexts[driver] == morning]
    for runners in itertools.combinations(reporting, quota):
        later = list(nexts)
        for driver in reporting:
            later[driver] = morning + (1 if driver in runners else period)
        yield runners, tuple(later)


def worlds(period, quota, firsts, most_days):
    """For each number of days from 0 on, the set of worlds behind so many days."""
    found = [{(tuple(firsts), (0,) * len(firsts))}]
    for morning in range(1, most_days + 1):
        grown = set()
        for nexts, passes in found[-1]:
            for runners, later in choices(period, quota, nexts, morning):
                grown.add((later, tuple(told + (driver in runners) for driver, told in enumerate(passes))))
        found.append(grown)
    return found


def crew_worlds(period, quota, firsts, most_days):
    """For each number of days from 0 on, the set of triples (next mornings, passes, crews)."""
    found = [{(tuple(firsts), (0,) * len(firsts), ())}]
    for morning in range(1, most_days + 1):
        grown = set()
        for nexts, passes, crews in found[-1]:
            for runners, later in choices(period, quota, nexts, morning):
                more = tuple(told + (driver in runners) for driver, told in enumerate(passes))
                grown.add((later, more, crews + (runners,) if morning % period == 0 else crews))
        found.append(grown)
    return found


def joined(rows):
    """Equal neighbours counted together: a list of pairs (how many, what)."""
    return [(len(list(group)), what) for what, group in itertools.groupby(rows)]


def weekdays(period, marks):
    """The weekdays of some mornings."""
    return tuple((mark - 1) % period + 1 for mark in marks)
