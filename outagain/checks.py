"""Checks of arguments that several modules share."""

from outagain.errors import BadPasses, BadWish, OutOfRange

MOST_DAYS = 10 ** 30


def check_days(days):
    """Raise OutOfRange if days is no number of days."""
    if not 0 <= days <= MOST_DAYS:
        raise OutOfRange(days, "days")


def check_driver(depot, driver):
    """Raise OutOfRange if the depot has no driver of this number."""
    if not 0 <= driver < depot.size:
        raise OutOfRange(driver, "driver")


def check_passes(depot, passes):
    """Raise BadPasses if passes is no row of one number, or None if it is not known, for each driver."""
    if len(passes) != depot.size:
        raise BadPasses(len(passes), "length")
    for driver, told in enumerate(passes):
        if told is not None and told < 0:
            raise BadPasses(driver, "pass")


def check_due(depot, due):
    """Raise BadWish if due is no row of one weekday for each driver."""
    check_weekdays(depot, due, 1)


def check_wish(depot, wish):
    """Raise BadWish if wish is no row of one weekday, or 0, for each driver."""
    check_weekdays(depot, wish, 0)


def check_weekdays(depot, row, least):
    """Raise BadWish if row is no row of one number from least to the period for each driver."""
    if len(row) != depot.size:
        raise BadWish(len(row), "length")
    for driver, weekday in enumerate(row):
        if not least <= weekday <= depot.period:
            raise BadWish(driver, "weekday")


def ascending(drivers, size):
    """True if these are ascending numbers from 0 to size - 1, each once."""
    least = 0
    for driver in drivers:
        if not least <= driver < size:
            return False
        least = driver + 1
    return True
