"""Meetings: when drivers can first be due on the same weekday."""

from outagain.checks import check_driver
from outagain.errors import BadWish
from outagain.wishes import day_rows, reach


def meeting(depot, *drivers, home=False):
    """("least", days, weekday, due) with the first meeting of the drivers, or ("never", most)."""
    check_drivers(depot, drivers)
    most = depot.quota + max(depot.places)
    if len(drivers) > most:
        return ("never", most)
    found = []
    for weekday in range(1, depot.period + 1):
        rows = day_rows(depot, wish_to_meet(depot, drivers, weekday))
        found.extend([(row[2], weekday) for row in rows if row[0] == "from" and (row[1] == weekday or not home)])
    days, weekday = min(found)
    _, due = reach(depot, days, wish_to_meet(depot, drivers, weekday))
    return ("least", days, weekday, due)


def check_drivers(depot, drivers):
    """Raise an error unless some drivers are named, each of the depot and each once."""
    if not drivers:
        raise BadWish(0, "none")
    for at, driver in enumerate(drivers):
        check_driver(depot, driver)
        if driver in drivers[:at]:
            raise BadWish(at, "twice")


def wish_to_meet(depot, drivers, weekday):
    """The wish that these drivers, and no others, be due on the weekday."""
    return [weekday if driver in drivers else 0 for driver in range(depot.size)]
