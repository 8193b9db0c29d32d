"""What all books that agree with the notes of an inspector have in common."""

from outagain.checks import check_driver
from outagain.errors import OutOfRange
from outagain.judging import check_possible
from outagain.notes import check_notes, fitting


def asked(depot, days, passes, notes, closing, driver):
    """Whether the driver was in the crew of the closing: "always", "never", "open", or "none" fits at all."""
    check_notes(depot, days, passes, notes)
    if not 1 <= closing <= depot.closings(days):
        raise OutOfRange(closing, "closing")
    check_driver(depot, driver)
    check_possible(depot, days, passes)
    paper = fitting(depot, days, passes, notes)
    if paper[0] != "fits":
        return ("none", paper)
    with_driver = fitting(depot, days, passes, [*notes, (closing, driver, True)])
    without = fitting(depot, days, passes, [*notes, (closing, driver, False)])
    if without[0] != "fits":
        return ("always", without)
    if with_driver[0] != "fits":
        return ("never", with_driver)
    return ("open", with_driver[1], without[1])
