"""The order of all possible rows, driver behind driver."""

from outagain.checks import check_days, check_passes
from outagain.passvalues import pass_values


def first_row(depot, days):
    """The least possible row."""
    return lowest(depot, days, [])


def last_row(depot, days):
    """The greatest possible row."""
    return highest(depot, days, [])


def next_row(depot, days, passes):
    """The least possible row that is greater, or None."""
    return row_beside(depot, days, passes, least_above, lowest)


def previous_row(depot, days, passes):
    """The greatest possible row that is less, or None."""
    return row_beside(depot, days, passes, greatest_below, highest)


def row_beside(depot, days, passes, nearest, filled):
    """The possible row that has most in common with the passes, then the nearest pass, and is filled behind it."""
    check_days(days)
    check_passes(depot, passes)
    for kept in range(depot.size - 1, -1, -1):
        front = list(passes[:kept])
        told = nearest(depot, values_behind(depot, days, front), passes[kept])
        if told is not None:
            return filled(depot, days, front + [told])
    return None


def values_behind(depot, days, front):
    """The passes that the driver behind the front has in the possible rows that begin with the front."""
    told = front + [None] * (depot.size - len(front))
    return pass_values(depot, days, told, len(front))


def lowest(depot, days, front):
    """The least possible row that begins with the front, if there is one."""
    row = front
    while len(row) < depot.size:
        row = row + [min([least for _, least, _ in values_behind(depot, days, row)])]
    return row


def highest(depot, days, front):
    """The greatest possible row that begins with the front, if there is one."""
    row = front
    while len(row) < depot.size:
        row = row + [max([greatest for _, _, greatest in values_behind(depot, days, row)])]
    return row


def least_above(depot, rows, told):
    """The least pass of the rows that is above the told one, or None."""
    found = []
    for _, least, greatest in rows:
        value = least + depot.period * max(0, (told - least) // depot.period + 1)
        if value <= greatest:
            found.append(value)
    return min(found, default=None)


def greatest_below(depot, rows, told):
    """The greatest pass of the rows that is below the told one, or None."""
    found = []
    for _, least, greatest in rows:
        value = greatest - depot.period * max(0, (greatest - told) // depot.period + 1)
        if value >= least:
            found.append(value)
    return max(found, default=None)
