"""Judging rows of passes: whether some book has them, and if none has, why."""

from outagain.checks import check_days, check_passes
from outagain.errors import NoBook

POSSIBLE = ("possible",)


def judge(depot, days, passes):
    """The verdict: POSSIBLE, or the reason of the first condition that fails."""
    check_days(days)
    check_passes(depot, passes)
    reasons = common_reasons(depot, days, passes)
    if days >= depot.period:
        reasons = reasons + early_reasons(depot, passes, [depot.last_weekday(days)])
    return reasons[0] if reasons else POSSIBLE


def possible(depot, days, passes):
    """True if some book of so many days has these passes."""
    return judge(depot, days, passes) == POSSIBLE


def check_possible(depot, days, passes):
    """Raise NoBook if no book of so many days has these passes."""
    verdict = judge(depot, days, passes)
    if verdict != POSSIBLE:
        raise NoBook(verdict)


def check_weekdays_dealt(depot, days, passes):
    """Raise NoBook with the first weekday reason if the passes do not satisfy the condition weekday."""
    reasons = weekday_reasons(depot, days, due_of(depot, passes))
    if reasons:
        raise NoBook(reasons[0])


def all_reasons(depot, days, passes):
    """The list of all reasons that stand."""
    check_days(days)
    check_passes(depot, passes)
    weekdays = list(range(1, min(depot.period, days) + 1))
    return common_reasons(depot, days, passes) + early_reasons(depot, passes, weekdays)


def reason_stands(depot, days, passes, reason):
    """True if the numbers of the reason are right and show that the passes are not possible."""
    return reason in all_reasons(depot, days, passes)


def due_of(depot, passes):
    """The list of the weekdays of the marks."""
    check_passes(depot, passes)
    return [depot.weekday(mark) for mark in marks_of(depot, passes)]


def marks_of(depot, passes):
    """The list of the marks."""
    return [first + told for first, told in zip(depot.firsts, passes)]


def common_reasons(depot, days, passes):
    """The reasons for sum, weekday and beyond that stand, in the order of the conditions."""
    return (sum_reasons(depot, days, passes) + weekday_reasons(depot, days, due_of(depot, passes))
            + beyond_reasons(depot, days, passes))


def sum_reasons(depot, days, passes):
    """The sum reason in a list, or an empty list."""
    total = sum(passes)
    due = depot.quota * days
    return [("sum", total, due)] if total != due else []


def weekday_reasons(depot, days, due):
    """A reason for each weekday on which not as many drivers are due as its due places, ascending."""
    reasons = []
    for weekday, room in enumerate(depot.due_places(days), 1):
        have = due.count(weekday)
        if have != room:
            reasons.append(("weekday", weekday, have, room))
    return reasons


def beyond_reasons(depot, days, passes):
    """The beyond reasons that stand, ascending."""
    return [("beyond", driver, mark) for driver, mark in enumerate(marks_of(depot, passes))
            if passes[driver] > 0 and mark > days + 1]


def early_reasons(depot, passes, weekdays):
    """The early reasons that stand for these weekdays."""
    marks = marks_of(depot, passes)
    reasons = []
    for weekday in weekdays:
        have = len([mark for mark in marks if mark <= weekday])
        room = sum(depot.places[:weekday])
        if have > room:
            reasons.append(("early", weekday, have, room))
    return reasons
