"""Counting possible rows without going through them."""

from math import comb, factorial
from outagain.checks import check_days, check_passes
from outagain.errors import OutOfRange
from outagain.halfknown import Half, mark_reasons
from outagain.passvalues import replaced

MOST_TO_COUNT = 8
MOST_TO_RANK = 5
LONGEST_TO_RANK = 4


def number_of(depot, days, told):
    """The number of completions of the told row."""
    if depot.size > MOST_TO_COUNT:
        raise OutOfRange(depot.size, "drivers")
    check_days(days)
    check_passes(depot, told)
    return count_rows(depot, days, told, 1)


def rank(depot, days, passes):
    """The number of possible rows that are less than this one, which need not be possible."""
    if depot.size > MOST_TO_RANK:
        raise OutOfRange(depot.size, "drivers")
    if depot.period > LONGEST_TO_RANK:
        raise OutOfRange(depot.period, "period")
    check_days(days)
    check_passes(depot, passes)
    total = 0
    for driver, most in enumerate(passes):
        front = [known if at < driver else None for at, known in enumerate(passes)]
        for weekday in range(1, depot.period + 1):
            total = total + count_lesser(depot, days, front, driver, weekday, most)
    return total


def count_lesser(depot, days, front, driver, weekday, most):
    """The completions in which the driver has a pass below most with a mark on the weekday."""
    base = weekday - depot.firsts[driver]
    total = 0
    if 0 <= base < most:
        total = count_rows(depot, days, replaced(front, driver, base), 1)
    last = depot.last_weekday(days)
    crews = depot.closings(days) - (0 if weekday <= last else 1)
    further = min(crews, (most - 1 - base) // depot.period)
    if further > 0:
        total = total + count_rows(depot, days, replaced(front, driver, base + depot.period), further)
    return total


def count_rows(depot, days, told, further):
    """The number of completions, when one told driver may be in 0 to further - 1 more crews than told."""
    if mark_reasons(depot, days, told):
        return 0
    half = Half(depot, days, told)
    ways = back_ways(half)
    if half.rounds == 0:
        return count_dealings(half, ways, 0, 0)
    early = sum(half.rooms[:half.last])
    late = sum(half.rooms[half.last:])
    total = 0
    for back in range(early + 1):
        for late_back in range(late + 1):
            dealings = count_dealings(half, ways, back, late_back)
            if dealings > 0:
                total = total + dealings * count_crews(half, early, late, back, late_back, further)
    return total


def count_dealings(half, ways, back, late_back):
    """In how many ways the free drivers can be due so that so many go back to weekdays up to the last
    weekday, and so many to later ones; ways are the back_ways."""
    total = 0
    for (some, late_some), many in ways.items():
        sign = 1 if (some + late_some - back - late_back) % 2 == 0 else -1
        rest = factorial(len(half.free) - some - late_some)
        total = total + sign * many * rest * comb(some, back) * comb(late_some, late_back)
    for room in half.rooms:
        # The places of a weekday were told apart so far.
        total = total // factorial(room)
    return total


def back_ways(half):
    """For each (x, y): in how many ways x places up to the last weekday and y later ones can be chosen
    and given to drivers who all go back there."""
    ways = {(0, 0): 1}
    for weekday in range(len(half.rooms), 0, -1):
        able = len([first for first in half.firsts if first > weekday])
        for _ in range(half.rooms[weekday - 1]):
            grown = {pair: many for pair, many in ways.items()}
            for (early, late), many in ways.items():
                pair = (early + 1, late) if weekday <= half.last else (early, late + 1)
                grown[pair] = grown.get(pair, 0) + many * (able - early - late)
            ways = grown
    return ways


def count_crews(half, early, late, back, late_back, further):
    """In how many ways the crews that are left can be shared out among drivers with known weekdays.

    Of the early ones, who are due up to the last weekday, and of the late ones, so many go back.
    """
    total = 0
    for served in range(max(back, half.lack), early + 1):
        groups = [(served + late - late_back, half.rounds), (late_back, half.rounds - 1), (1, further)]
        ways = count_shares(half.left - served - late_back, groups)
        total = total + comb(early - back, served - back) * ways
    return total


def count_shares(total, groups):
    """In how many ways total is a sum of numbers, for each group (many, top) many of them from 0 to top - 1."""
    # Inclusion and exclusion: some numbers of each group are top too great, the others are free.
    terms = [(1, total)]
    for many, top in groups:
        terms = [((-1 if over % 2 == 1 else 1) * times * comb(many, over), rest - over * top)
                 for times, rest in terms for over in range(many + 1)]
    free = sum([many for many, _ in groups]) - 1
    return sum([times * comb(rest + free, free) for times, rest in terms if rest >= 0])
