"""The reasons of points 18 and 23 by the words of the document, and asking about reasons."""

from tests.counting import weekdays
from tests.support import FAR, PromiseTest

WORDS = ("sum", "weekday", "beyond", "early", "possible", "crowd", "closings", "lasts", "more", "reached", "passes", "")


def due_places(depot, days):
    """The due places of each weekday, counted from the firsts."""
    last = days % depot.period + 1
    return [depot.firsts.count(c) - (depot.quota if c == 1 else 0) + (depot.quota if c == last else 0)
            for c in range(1, depot.period + 1)]


def counts(depot, days, weekdays_told, free):
    """The function F of the left places, and the function S of the free drivers."""
    due = due_places(depot, days)
    left = [due[c - 1] - list(weekdays_told).count(c) for c in range(1, depot.period + 1)]
    return (lambda r: sum(left[:r])), (lambda r: sum(depot.firsts[i] <= r for i in free))


def wish_numbers(depot, days, wish):
    """All reasons of the forms of point 18 with right numbers, each with whether it breaks its condition."""
    closings, last = days // depot.period, days % depot.period + 1
    told = [c for c in wish if c]
    back = [c for c, first in zip(wish, depot.firsts) if c and c < first]
    late = sum(c > last for c in back)
    f, s = counts(depot, days, told, [i for i, c in enumerate(wish) if not c])
    found = [("crowd", c, told.count(c), room) for c, room in enumerate(due_places(depot, days), 1)]
    found += [("closings", r, len(back) + f(r) - s(r), depot.quota * closings) for r in range(depot.period + 1)]
    carried = depot.quota * (closings - 1) if closings else 0
    found += [("lasts", r, late + max(0, f(r) - f(last) - s(r)), carried) for r in range(last, depot.period + 1)]
    return [(reason, reason[-2] > reason[-1]) for reason in found]


def told_numbers(depot, days, told):
    """All reasons of the forms of point 23 with right numbers, each with whether it breaks its condition."""
    period, quota, closings, last = depot.period, depot.quota, days // depot.period, days % depot.period + 1
    marks = {i: first + known for i, (first, known) in enumerate(zip(depot.firsts, told)) if known is not None}
    c_of = weekdays(period, marks.values())
    crews = [(mark - 1) // period for mark in marks.values()]
    left = quota * closings - sum(crews)
    served = sum(c <= last and times >= 1 for c, times in zip(c_of, crews))
    lack = max(0, quota - served) if closings else 0
    due = due_places(depot, days)
    places = [room - (quota if c == last else 0) for c, room in enumerate(due, 1)]
    f, s = counts(depot, days, c_of, [i for i in range(depot.size) if told[i] is None])
    found = [(("beyond", i, mark), told[i] > 0 and mark > days + 1) for i, mark in marks.items()]
    found += [(("crowd", c, c_of.count(c), room), c_of.count(c) > room) for c, room in enumerate(due, 1)]
    early, room = sum(mark <= last for mark in marks.values()), sum(places[:last])
    found += [(("early", last, early, room), closings > 0 and early > room)]
    found += [(("closings", r, f(r) - s(r), left), f(r) - s(r) > left) for r in range(period + 1)]
    for r in range(last, period + 1):
        need = lack + max(0, f(r) - f(last) - s(r))
        found.append((("lasts", r, need, left), need > left))
    most = closings * f(last) + (closings - 1) * (f(period) - f(last)) if closings else 0
    return found + [(("more", left, most), left > most)]


def changed(reason):
    """The reason with one of its numbers changed, and with other words and lengths."""
    for at in range(1, len(reason)):
        for change in (-1, 1, 2, -2, 9, FAR):
            yield reason[:at] + (reason[at] + change,) + reason[at + 1:]
    for word in WORDS:
        if word != reason[0]:
            yield (word, *reason[1:])
    yield reason[:-1]
    yield (*reason, 0)
    yield (*reason, reason[-1])
    yield reason[:1]


class ReasonTest(PromiseTest):
    """Checks of answers that are reasons, and of what says whether a reason stands."""

    def right_reason(self, answer, numbers):
        """The answer is a reason of the first condition that fails: any for closings and lasts, else the first."""
        broken = [reason for reason, breaks in numbers if breaks]
        allowed = [reason for reason in broken if reason[0] == broken[0][0]]
        self.assertIn(answer, allowed if broken[0][0] in ("closings", "lasts") else broken[:1])
        self.same(answer, allowed[allowed.index(answer)])

    def asked(self, call, args, numbers):
        """The call says of each reason with right numbers, and of changed ones, whether it stands."""
        standing = {reason for reason, breaks in numbers if breaks}
        for reason, breaks in numbers:
            self.assertIs(call(*args, reason), breaks)
            for other in changed(reason):
                self.assertIs(call(*args, other), other in standing)
        for other in ((), ("closings",), ("reached",), ("passes", 0), ("crowd", 0, 1, 0), ("lasts", 0, FAR, 0)):
            self.assertIs(call(*args, other), other in standing)
