"""The passes that single drivers can have, and what a row of passes misses to be possible."""

from itertools import combinations
from outagain.checks import check_days, check_driver, check_passes
from outagain.errors import OutOfRange
from outagain.halfknown import Half, complete, mark_reasons, told_reasons
from outagain.judging import possible

MOST_TO_MEND = 8


def pass_values(depot, days, told, driver):
    """The rows (weekday, least, greatest) of the passes that the driver has in the completions."""
    check_days(days)
    check_passes(depot, told)
    check_driver(depot, driver)
    if told[driver] is not None:
        if told_reasons(depot, days, told):
            return []
        return [(depot.weekday(depot.firsts[driver] + told[driver]), told[driver], told[driver])]
    rows = []
    for weekday in range(1, depot.period + 1):
        values = values_on(depot, days, told, driver, weekday)
        if values:
            rows.append((weekday, min(values), max(values)))
    return rows


def settled(depot, days, told, driver):
    """("sure", pass), ("open", one, other) with two completions, or ("none", reason)."""
    rows = pass_values(depot, days, told, driver)
    if not rows:
        return ("none", complete(depot, days, told))
    least = min([low for _, low, _ in rows])
    greatest = max([high for _, _, high in rows])
    if least == greatest:
        return ("sure", least)
    _, one = complete(depot, days, replaced(told, driver, least))
    _, other = complete(depot, days, replaced(told, driver, greatest))
    return ("open", one, other)


def misread(depot, days, passes):
    """The pairs (driver, pass) that make the row possible when just this pass is another number."""
    check_days(days)
    check_passes(depot, passes)
    rest = depot.quota * days - sum(passes)
    if rest == 0:
        return []
    return [(driver, told + rest) for driver, told in enumerate(passes)
            if told + rest >= 0 and possible(depot, days, replaced(passes, driver, told + rest))]


def exchanges(depot, days, passes):
    """The pairs of drivers with unlike passes that make the row possible when they change places."""
    check_days(days)
    check_passes(depot, passes)
    pairs = []
    for one, other in combinations(range(depot.size), 2):
        row = replaced(replaced(passes, one, passes[other]), other, passes[one])
        if passes[one] != passes[other] and possible(depot, days, row):
            pairs.append((one, other))
    return pairs


def mending(depot, days, passes):
    """(count, drivers, row): the fewest drivers whose passes are replaced in a possible row, and the row."""
    if depot.size > MOST_TO_MEND:
        raise OutOfRange(depot.size, "drivers")
    # Some row is always possible, so with all drivers at the latest there is one. As fewer drivers
    # were not enough, each of those that are found gets another pass than it had.
    for count in range(depot.size + 1):
        for drivers in combinations(range(depot.size), count):
            answer = complete(depot, days, forgotten(passes, drivers))
            if answer[0] == "passes":
                return (count, drivers, answer[1])


def values_on(depot, days, told, driver, weekday):
    """The least and the greatest pass of a driver without a told pass that lead to a mark on the weekday.

    Without crews, there is one such pass at most. With crews, what a completion asks for is bounded
    from both sides by the number of crews, so it is enough to look at the row with one crew.
    """
    values = []
    base = weekday - depot.firsts[driver]
    if base >= 0 and not told_reasons(depot, days, replaced(told, driver, base)):
        values.append(base)
    row = replaced(told, driver, base + depot.period)
    if mark_reasons(depot, days, row):
        return values
    half = Half(depot, days, row)
    least = max(1, 1 + half.left - half.most())
    greatest = min(half.rounds if weekday <= half.last else half.rounds - 1, 1 + half.left - half.need())
    if least <= greatest:
        values.extend([base + depot.period * least, base + depot.period * greatest])
    return values


def replaced(row, driver, told):
    """The row with this number for the driver."""
    return [told if at == driver else known for at, known in enumerate(row)]


def forgotten(row, drivers):
    """The row in which the passes of these drivers are not known."""
    return [None if at in drivers else known for at, known in enumerate(row)]
