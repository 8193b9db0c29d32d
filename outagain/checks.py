"""Checks of arguments that several modules share."""

from outagain.errors import BadPasses, BadWish, OutOfRange

MOST_DAYS = 10 ** 30


def check_days(days):
    """Raise OutOfRange if days is no number of days."""
    if not 0 <= days <= MOST_DAYS:
        raise OutOfRange(days, "days")


def check_passes(depot, passes):
    """Raise BadPasses if passes is no row of one number for each driver."""
    if len(passes) != depot.size:
        raise BadPasses(len(passes), "length")
    for driver, told in enumerate(passes):
        if told < 0:
            raise BadPasses(driver, "pass")


def check_due(depot, due):
    """Raise BadWish if due is no row of one weekday for each driver."""
    if len(due) != depot.size:
        raise BadWish(len(due), "length")
    for driver, weekday in enumerate(due):
        if not 1 <= weekday <= depot.period:
            raise BadWish(driver, "weekday")


def ascending(drivers, size):
    """True if these are ascending numbers from 0 to size - 1, each once."""
    least = 0
    for driver in drivers:
        if not least <= driver < size:
            return False
        least = driver + 1
    return True
