"""The answers of point 29 by the words of the document."""

import itertools

from outagain.judging import possible
from tests.reasons import due_places
from tests.support import FAR


def rows_from_the_period(depot, days):
    """All possible rows in which everybody has at least the period."""
    period, total = depot.period, depot.quota * days
    for front in itertools.product(range(period, days + 1), repeat=depot.size - 1):
        row = (*front, total - sum(front))
        if row[-1] >= period and possible(depot, days, row):
            yield row


def possible_marks(depot, days, lows, highs):
    """For each driver the first and the last possible mark on each weekday, None where there is none."""
    found = []
    for first, low, high in zip(depot.firsts, lows, highs):
        begin, end = first + low, min(days + 1, first + high)
        row = []
        for c in range(1, depot.period + 1):
            firsts = [mark for mark in range(begin, begin + depot.period) if (mark - c) % depot.period == 0]
            lasts = [mark for mark in range(end - depot.period + 1, end + 1) if (mark - c) % depot.period == 0]
            row.append((firsts[0], lasts[0]) if firsts[0] <= end else None)
        found.append(row)
    return found


def stands(depot, days, lows, highs, answer):
    """True if the answer stands."""
    marks = possible_marks(depot, days, lows, highs)
    due = due_places(depot, days)
    target = sum(depot.firsts) + depot.quota * days
    pairs = [(i, c) for i in range(depot.size) for c in range(depot.period) if marks[i][c]]
    match answer:
        case ("passes", row):
            return (len(row) == depot.size and all(low <= told <= high for low, told, high in zip(lows, row, highs))
                    and possible(depot, days, row))
        case ("crowd", drivers, weekdays):
            if list(drivers) != sorted({i for i in drivers if 0 <= i < depot.size}):
                return False
            if list(weekdays) != sorted({c for c in weekdays if 1 <= c <= depot.period}):
                return False
            return (not any(i in drivers and c + 1 not in weekdays for i, c in pairs)
                    and len(drivers) > sum(due[c - 1] for c in weekdays))
        case ("least" | "most" as word, prices, tolls) if (len(prices), len(tolls)) == (depot.size, depot.period):
            total = sum(prices) + sum(toll * room for toll, room in zip(tolls, due))
            if word == "least":
                return total > target and all(prices[i] + tolls[c] <= marks[i][c][0] for i, c in pairs)
            return total < target and all(prices[i] + tolls[c] >= marks[i][c][1] for i, c in pairs)
    return False


def others(depot, answer):
    """Answers with one thing changed, and with other words and lengths."""
    for word in ("passes", "crowd", "least", "most", "possible", ""):
        if len(answer) == 3 and word == "crowd":
            yield ("crowd", *[tuple(sorted(part)) for part in answer[1:]])
        elif word != answer[0]:
            yield (word, *answer[1:])
    yield answer[:-1]
    yield answer[:1]
    yield ()
    yield (*answer, answer[-1])
    for at in range(1, len(answer)):
        part = answer[at]
        for new in changed_rows(part):
            yield (*answer[:at], type(part)(new), *answer[at + 1:])


def changed_rows(part):
    """The row with one entry changed, dropped, doubled, or with entries in another order."""
    row = list(part)
    for at in range(len(row)):
        for change in (1, -1, 3, -3, FAR, -FAR):
            yield row[:at] + [row[at] + change] + row[at + 1:]
        yield row[:at] + row[at + 1:]
        yield row[:at] + [row[at]] + row[at:]
    yield row[::-1]
    yield row + [0]
    yield row + [1]
    yield [-1] + row
