"""Rows of passes that are only partly known, and completing them."""

from outagain.checks import check_days, check_passes
from outagain.dealing import back_needs, crowd_reasons, deal, last_needs, left_places, need_reasons, share_crews


class Half:
    """What a told row leaves open behind so many days; it never changes."""

    def __init__(self, depot, days, told):
        self.rounds = depot.closings(days)
        self.last = depot.last_weekday(days)
        self.free = [driver for driver, known in enumerate(told) if known is None]
        self.firsts = [depot.firsts[driver] for driver in self.free]
        marks = [mark for _, mark in told_marks(depot, told)]
        self.rooms = left_places(depot, days, [depot.weekday(mark) for mark in marks])
        self.left = depot.quota * self.rounds - sum([(mark - 1) // depot.period for mark in marks])
        served = [mark for mark in marks if depot.weekday(mark) <= self.last and mark > depot.period]
        self.lack = max(0, depot.quota - len(served)) if self.rounds > 0 else 0

    def closing_needs(self):
        """The needs of the condition closings, for each r."""
        return back_needs(self.rooms, self.firsts, 0)

    def late_needs(self):
        """The needs of the condition lasts, for each r."""
        return last_needs(self.rooms, self.firsts, self.last, self.lack)

    def need(self):
        """The least number of crews that the free drivers can be in together."""
        return max([need for _, need in self.closing_needs() + self.late_needs()])

    def most(self):
        """The greatest number of crews that the free drivers can be in together."""
        early = sum(self.rooms[:self.last])
        late = sum(self.rooms[self.last:])
        return self.rounds * early + max(0, self.rounds - 1) * late


def complete(depot, days, told):
    """("passes", row) with a completion of the told row, or the reason why there is none."""
    check_days(days)
    check_passes(depot, told)
    reasons = told_reasons(depot, days, told)
    return reasons[0] if reasons else ("passes", completed(depot, days, told))


def told_stands(depot, days, told, reason):
    """True if the numbers of the reason are right and show that there is no completion."""
    check_days(days)
    check_passes(depot, told)
    return reason in told_reasons(depot, days, told)


def told_reasons(depot, days, told):
    """All reasons that stand, in the order of the conditions."""
    half = Half(depot, days, told)
    left = half.left
    most = half.most()
    return (mark_reasons(depot, days, told)
            + need_reasons("closings", half.closing_needs(), left)
            + need_reasons("lasts", half.late_needs(), left)
            + ([("more", left, most)] if left > most else []))


def mark_reasons(depot, days, told):
    """The reasons that stand for the told marks alone: beyond, crowd and early."""
    marks = told_marks(depot, told)
    reasons = [("beyond", driver, mark) for driver, mark in marks if told[driver] > 0 and mark > days + 1]
    reasons.extend(crowd_reasons(depot, days, [depot.weekday(mark) for _, mark in marks]))
    last = depot.last_weekday(days)
    have = len([mark for _, mark in marks if mark <= last])
    room = sum(depot.places[:last])
    if days >= depot.period and have > room:
        reasons.append(("early", last, have, room))
    return reasons


def told_marks(depot, told):
    """The pairs (driver, mark) of the drivers whose pass is told."""
    return [(driver, depot.firsts[driver] + known) for driver, known in enumerate(told) if known is not None]


def completed(depot, days, told):
    """The completion of a told row that has one."""
    half = Half(depot, days, told)
    weekdays = deal(half.rooms, half.firsts)
    crews = share_crews(half.firsts, weekdays, half.last, half.rounds, half.left, half.lack)
    row = list(told)
    for driver, weekday, times in zip(half.free, weekdays, crews):
        row[driver] = weekday - depot.firsts[driver] + depot.period * times
    return row
