"""Dealing drivers to the places that are left, and sharing out crews among them.

Several questions tell the due weekdays of some drivers only. The others, the free drivers, are told
here by their first mornings; the places are those that are left for them on the weekdays from 1 on.
"""


def left_places(depot, days, weekdays):
    """The due places of each weekday less the drivers told for it, which may be below 0."""
    return [room - weekdays.count(weekday) for weekday, room in enumerate(depot.due_places(days), 1)]


def crowd_reasons(depot, days, weekdays):
    """A reason for each weekday that more drivers are told for than its due places, ascending."""
    reasons = []
    for weekday, room in enumerate(depot.due_places(days), 1):
        told = weekdays.count(weekday)
        if told > room:
            reasons.append(("crowd", weekday, told, room))
    return reasons


def surplus(places, firsts, low, high):
    """The places of the weekdays from low + 1 to high, less the free drivers who can take one of them
    or one of a lower weekday without going back."""
    return sum(places[low:high]) - len([first for first in firsts if first <= high])


def back_needs(places, firsts, told):
    """For each r from 0 to the period, how many drivers have to go back, when told ones do already."""
    return [(r, told + surplus(places, firsts, 0, r)) for r in range(len(places) + 1)]


def last_needs(places, firsts, last, told):
    """For each r from the last weekday on, how many crews the last closing cannot give, when told are given."""
    return [(r, told + max(0, surplus(places, firsts, last, r))) for r in range(last, len(places) + 1)]


def need_reasons(word, needs, carried):
    """A reason for each pair (r, need) whose need is more than can be carried."""
    return [(word, r, need, carried) for r, need in needs if need > carried]


def deal(places, firsts):
    """A weekday for each free driver, with as few going back, to any weekday and to late ones, as can be."""
    dealt = [0] * len(firsts)
    over = []
    for weekday in range(len(places), 0, -1):
        for _ in range(places[weekday - 1]):
            able = [(first, at) for at, first in enumerate(firsts) if dealt[at] == 0 and first <= weekday]
            if able:
                _, taker = max(able)
                dealt[taker] = weekday
            else:
                over.append(weekday)
    return [weekday if weekday > 0 else over.pop() for weekday in dealt]


def share_crews(firsts, weekdays, last, closings, left, lack):
    """How many crews each free driver is in: left in sum, and at least lack of those due up to last in some."""
    needs = [1 if weekday < first else 0 for first, weekday in zip(firsts, weekdays)]
    early = [at for at, weekday in enumerate(weekdays) if weekday <= last]
    idle = [at for at in early if needs[at] == 0]
    for at in idle[:max(0, lack - (len(early) - len(idle)))]:
        needs[at] = 1
    rest = left - sum(needs)
    for at, weekday in enumerate(weekdays):
        most = closings if weekday <= last else closings - 1
        more = max(0, min(rest, most - needs[at]))
        needs[at] = needs[at] + more
        rest = rest - more
    return needs
