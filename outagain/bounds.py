"""Passes within bounds for everybody, and papers that show that there are none."""

from outagain.assigning import deal_at_least_cost, prices_and_tolls
from outagain.checks import ascending, check_days
from outagain.errors import BadBounds, OutOfRange
from outagain.judging import possible


def within(depot, days, lows, highs):
    """("passes", row) with possible passes within the bounds, or a paper that shows that there are none."""
    check_bounds(depot, days, lows, highs)
    rooms = depot.due_places(days)
    target = mark_sum(depot, days)
    ends = mark_ends(depot, days, lows, highs)
    least = least_costs(ends)
    greatest = greatest_costs(ends)
    answer = deal_at_least_cost(least, rooms)
    if answer[0] == "crowd":
        return answer
    _, early = answer
    _, late = deal_at_least_cost(greatest, rooms)
    begins = [least[driver][weekday] for driver, weekday in enumerate(early)]
    goals = [-greatest[driver][weekday] for driver, weekday in enumerate(late)]
    if sum(begins) > target:
        prices, tolls = prices_and_tolls(least, early, depot.period)
        return ("least", tuple(prices), tuple(tolls))
    if sum(goals) < target:
        prices, tolls = prices_and_tolls(greatest, late, depot.period)
        return ("most", tuple([-price for price in prices]), tuple([-toll for toll in tolls]))
    marks = marks_between(begins, goals, rings_of(early, late), target)
    return ("passes", [mark - first for mark, first in zip(marks, depot.firsts)])


def within_stands(depot, days, lows, highs, answer):
    """True if the answer holds by counting."""
    check_bounds(depot, days, lows, highs)
    if len(answer) == 2 and answer[0] == "passes":
        return row_stands(depot, days, lows, highs, answer[1])
    if len(answer) != 3:
        return False
    word, one, other = answer
    ends = mark_ends(depot, days, lows, highs)
    if word == "crowd":
        return crowd_stands(depot, days, ends, one, other)
    if len(one) != depot.size or len(other) != depot.period:
        return False
    if word == "least":
        return prices_stand(depot, days, least_costs(ends), one, other, mark_sum(depot, days))
    if word == "most":
        prices = [-price for price in one]
        tolls = [-toll for toll in other]
        return prices_stand(depot, days, greatest_costs(ends), prices, tolls, -mark_sum(depot, days))
    return False


def check_many_days(depot, days):
    """Raise OutOfRange unless these are days enough for all drivers to be in some crew."""
    check_days(days)
    if days < 3 * depot.period * depot.size:
        raise OutOfRange(days, "days")


def check_bounds(depot, days, lows, highs):
    """Raise an error unless these are many days, and lows and highs for all drivers."""
    check_many_days(depot, days)
    if len(lows) != depot.size:
        raise BadBounds(len(lows), "length")
    for driver, low in enumerate(lows):
        if low < depot.period:
            raise BadBounds(driver, "low")
    if len(highs) != depot.size:
        raise BadBounds(len(highs), "length")
    for driver, high in enumerate(highs):
        if high < lows[driver]:
            raise BadBounds(driver, "high")


def mark_sum(depot, days):
    """The sum that the marks of all drivers have."""
    return sum(depot.firsts) + depot.quota * days


def mark_ends(depot, days, lows, highs):
    """For each driver a dict: the least and the greatest possible mark on each weekday that has any."""
    rows = []
    for first, low, high in zip(depot.firsts, lows, highs):
        begin = first + low
        end = min(days + 1, first + high)
        row = {}
        for weekday in range(1, depot.period + 1):
            least = begin + (weekday - begin) % depot.period
            greatest = end - (end - weekday) % depot.period
            if least <= greatest:
                row[weekday] = (least, greatest)
        rows.append(row)
    return rows


def least_costs(ends):
    """The least possible marks as costs."""
    return [{weekday: least for weekday, (least, _) in row.items()} for row in ends]


def greatest_costs(ends):
    """The greatest possible marks as costs below 0, so that the greatest sum of marks costs least."""
    return [{weekday: -greatest for weekday, (_, greatest) in row.items()} for row in ends]


def rings_of(early, late):
    """The rings of drivers in which each one's late weekday is the early weekday of the one behind."""
    left = list(range(len(early)))
    rings = []
    while left:
        driver = left[0]
        ring = []
        while driver is not None:
            left.remove(driver)
            ring.append(driver)
            found = [other for other in left if early[other] == late[driver]]
            driver = found[0] if found else None
        rings.append(ring)
    return rings


def marks_between(begins, goals, rings, target):
    """Marks with just the target as their sum, with rings of drivers moved from their begins to their goals."""
    marks = list(begins)
    for ring in rings:
        # As the begins have the least sum of all dealings, no ring makes the sum less.
        moved = [goals[driver] if driver in ring else mark for driver, mark in enumerate(marks)]
        if sum(moved) > target:
            return marks_in_ring(marks, goals, ring, target)
        marks = moved
    return marks


def marks_in_ring(begins, goals, ring, target):
    """The marks with one driver of the ring behind another moved until the sum is the target."""
    marks = list(begins)
    for driver in ring:
        rest = target - sum(marks)
        gain = goals[driver] - marks[driver]
        marks[driver] = marks[driver] + min(gain, rest)
        if gain > rest:
            return marks
    return marks


def row_stands(depot, days, lows, highs, row):
    """True if these are possible passes within the bounds."""
    return (len(row) == depot.size
            and all([low <= told <= high for low, told, high in zip(lows, row, highs)])
            and possible(depot, days, row))


def crowd_stands(depot, days, ends, drivers, weekdays):
    """True if these drivers have possible marks on no others than these weekdays, and too few due places."""
    if not ascending(drivers, depot.size) or not ascending([weekday - 1 for weekday in weekdays], depot.period):
        return False
    rooms = depot.due_places(days)
    return (all([weekday in weekdays for driver in drivers for weekday in ends[driver]])
            and len(drivers) > sum([rooms[weekday - 1] for weekday in weekdays]))


def prices_stand(depot, days, costs, prices, tolls, most):
    """True if no price and toll together are above the cost, but all of them above the most."""
    rooms = depot.due_places(days)
    fair = all([prices[driver] + tolls[weekday - 1] <= cost
                for driver, row in enumerate(costs) for weekday, cost in row.items()])
    return fair and sum(prices) + sum([toll * room for toll, room in zip(tolls, rooms)]) > most
