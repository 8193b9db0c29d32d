"""Wishes: on which weekdays drivers can be due, and behind how many days."""

from outagain.checks import check_days, check_wish
from outagain.dealing import back_needs, crowd_reasons, deal, last_needs, left_places, need_reasons, share_crews
from outagain.errors import NoBook
from outagain.longbooks import book_of_passes


def reach(depot, days, wish):
    """("reached", due) with a completion of the wish, or the reason why there is none."""
    check_days(days)
    check_wish(depot, wish)
    reasons = wish_reasons(depot, days, wish)
    return reasons[0] if reasons else ("reached", completed(depot, days, wish))


def reach_stands(depot, days, wish, reason):
    """True if the numbers of the reason are right and show that the wish is not reached."""
    check_days(days)
    check_wish(depot, wish)
    return reason in wish_reasons(depot, days, wish)


def day_rows(depot, wish):
    """For each weekday, from which days on with this last weekday the wish is reached, or why it never is."""
    check_wish(depot, wish)
    rows = []
    for weekday in range(1, depot.period + 1):
        crowds = crowd_reasons(depot, weekday - 1, wish)
        if crowds:
            _, crowded, told, room = crowds[0]
            rows.append(("crowd", weekday, crowded, told, room))
        else:
            rows.append(("from", weekday, weekday - 1 + depot.period * least_closings(depot, weekday, wish)))
    return rows


def least_day(depot, wish):
    """("least", days, due) with the least days behind which the wish is reached, or ("never",)."""
    found = [row[2] for row in day_rows(depot, wish) if row[0] == "from"]
    if not found:
        return ("never",)
    days = min(found)
    return ("least", days, completed(depot, days, wish))


def book_of_wish(depot, days, wish):
    """A book of so many days whose due weekdays are a completion of the wish."""
    answer = reach(depot, days, wish)
    if answer[0] != "reached":
        raise NoBook(answer)
    due = answer[1]
    closings = depot.closings(days)
    left = depot.quota * closings
    crews = share_crews(depot.firsts, due, depot.last_weekday(days), closings, left, min(left, depot.quota))
    passes = [weekday - first + depot.period * times
              for weekday, first, times in zip(due, depot.firsts, crews)]
    return book_of_passes(depot, days, passes)


def wish_reasons(depot, days, wish):
    """All reasons that stand, in the order of the conditions."""
    closings = depot.closings(days)
    return (crowd_reasons(depot, days, wish)
            + need_reasons("closings", closing_needs(depot, days, wish), depot.quota * closings)
            + need_reasons("lasts", late_needs(depot, days, wish), depot.quota * max(0, closings - 1)))


def closing_needs(depot, days, wish):
    """The needs of the condition closings, for each r."""
    backs = back_weekdays(depot, wish)
    return back_needs(left_places(depot, days, wish), free_firsts(depot, wish), len(backs))


def late_needs(depot, days, wish):
    """The needs of the condition lasts, for each r."""
    last = depot.last_weekday(days)
    backs = [weekday for weekday in back_weekdays(depot, wish) if weekday > last]
    return last_needs(left_places(depot, days, wish), free_firsts(depot, wish), last, len(backs))


def back_weekdays(depot, wish):
    """The told weekdays of the drivers who go back."""
    return [weekday for weekday, first in zip(wish, depot.firsts) if 0 < weekday < first]


def free_firsts(depot, wish):
    """The first mornings of the drivers without a told weekday."""
    return [first for weekday, first in zip(wish, depot.firsts) if weekday == 0]


def least_closings(depot, weekday, wish):
    """The least number of closings behind which the wish is reached when this is the last weekday."""
    # The needs depend on the last weekday alone, so any days that have it will do.
    days = weekday - 1
    back = max([need for _, need in closing_needs(depot, days, wish)])
    late = max([need for _, need in late_needs(depot, days, wish)])
    return max(closings_for(depot, back), closings_for(depot, late) + 1 if late > 0 else 0)


def closings_for(depot, need):
    """The least number of closings that together have so many day runs."""
    return (need + depot.quota - 1) // depot.quota


def completed(depot, days, wish):
    """The due weekdays of a wish that is reached, those that it leaves free dealt out."""
    dealt = deal(left_places(depot, days, wish), free_firsts(depot, wish))
    free = [driver for driver, weekday in enumerate(wish) if weekday == 0]
    due = list(wish)
    for driver, weekday in zip(free, dealt):
        due[driver] = weekday
    return due
