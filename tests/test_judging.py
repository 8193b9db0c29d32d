"""Points 11 and 12 and the judging of the interface."""

import itertools
import unittest

from outagain.depots import Depot
from outagain.errors import BadPasses, OutOfRange
from outagain.judging import all_reasons, due_of, judge, possible, reason_stands
from outagain.walking import walk
from tests.counting import weekdays, worlds
from tests.support import FAR, PromiseTest, new_dice, random_book, random_depot, small_depots


def stands(depot, days, passes, reason):
    """True if the reason stands, by the words of point 12."""
    marks = [first + told for first, told in zip(depot.firsts, passes)]
    told = weekdays(depot.period, marks)
    last = days % depot.period + 1
    begins = [depot.firsts.count(c) - (depot.quota if c == 1 else 0) for c in range(1, depot.period + 1)]
    match reason:
        case ("sum", total, due):
            return total == sum(passes) and due == depot.quota * days and total != due
        case ("weekday", c, have, due):
            return (1 <= c <= depot.period and have == told.count(c) and have != due
                    and due == begins[c - 1] + (depot.quota if c == last else 0))
        case ("beyond", i, mark):
            return 0 <= i < depot.size and passes[i] > 0 and mark == marks[i] and mark > days + 1
        case ("early", c, have, room):
            return (1 <= c <= min(depot.period, days) and have == sum(mark <= c for mark in marks)
                    and room == sum(begins[:c]) and have > room)
    return False


def candidates(depot, days, passes):
    """All reasons of the forms of point 12 with right numbers, in the order of the list of all reasons."""
    marks = [first + told for first, told in zip(depot.firsts, passes)]
    told = weekdays(depot.period, marks)
    places = list(depot.places)
    due = list(places)
    due[days % depot.period] += depot.quota
    found = [("sum", sum(passes), depot.quota * days)]
    found += [("weekday", c, told.count(c), due[c - 1]) for c in range(1, depot.period + 1)]
    found += [("beyond", i, mark) for i, mark in enumerate(marks)]
    found += [("early", c, sum(mark <= c for mark in marks), sum(places[:c])) for c in range(1, depot.period + 1)]
    return found


def verdict(depot, days, passes):
    """The verdict, by the words of point 12."""
    for reason in candidates(depot, days, passes):
        if reason[0] == "early" and (days < depot.period or reason[1] != days % depot.period + 1):
            continue
        if stands(depot, days, passes, reason):
            return reason
    return ("possible",)


def neighbours(reason):
    """The reason with one of its numbers changed, and the reason with other lengths and words."""
    for at in range(1, len(reason)):
        for change in (-1, 1, FAR):
            yield reason[:at] + (reason[at] + change,) + reason[at + 1:]
    for word in ("sum", "weekday", "beyond", "early", "possible", "crowd", ""):
        if word != reason[0]:
            yield (word, *reason[1:])
    yield reason[:-1]
    yield (*reason, 0)
    yield (*reason, reason[-1])


class JudgeTest(PromiseTest):
    def judged(self, depot, days, passes):
        told = self.untouched(judge, depot, days, passes)
        self.same(told, verdict(depot, days, passes))
        self.assertIs(possible(depot, days, passes), told == ("possible",))
        reasons = self.untouched(all_reasons, depot, days, passes)
        self.same(reasons, [reason for reason in candidates(depot, days, passes)
                            if stands(depot, days, passes, reason)])
        self.assertEqual(reasons == [], told == ("possible",))
        return told

    def asked(self, depot, days, passes):
        for reason in candidates(depot, days, passes):
            right = stands(depot, days, passes, reason)
            self.assertIs(self.untouched(reason_stands, depot, days, passes, reason), right)
            for other in neighbours(reason):
                self.assertIs(reason_stands(depot, days, passes, other), stands(depot, days, passes, other))

    def test_just_the_rows_that_some_book_has(self):
        for depot in small_depots((1, 2, 3), (1, 2), (1, 2, 3)):
            told = worlds(depot.period, depot.quota, depot.firsts, 6)
            for days in range(7):
                found = {passes for _, passes in told[days]}
                for passes in itertools.product(range(days + 2), repeat=depot.size):
                    if sum(passes) == depot.quota * days:
                        self.assertIs(possible(depot, days, passes), passes in found)
                    else:
                        self.assertFalse(possible(depot, days, passes))

    def test_just_the_rows_of_four_drivers(self):
        for depot in small_depots((2, 3, 4), (1, 2), (4,)):
            told = worlds(depot.period, depot.quota, depot.firsts, 5)
            for days in range(6):
                found = {passes for _, passes in told[days]}
                for passes in itertools.product(range(days + 2), repeat=4):
                    if sum(passes) == depot.quota * days:
                        self.assertIs(possible(depot, days, passes), passes in found)

    def test_verdict_and_reasons_by_counting(self):
        kinds = set()
        for depot in small_depots((1, 2, 3), (1, 2), (1, 2, 3)):
            for days in range(5):
                for passes in itertools.product(range(days + 2), repeat=depot.size):
                    kinds.add(self.judged(depot, days, list(passes))[0])
        self.assertEqual(kinds, {"possible", "sum", "weekday", "beyond", "early"})

    def test_reasons_that_stand(self):
        dice = new_dice(30)
        kinds = set()
        for depot in small_depots((1, 2, 4), (1, 2), (3,)):
            for days in range(6):
                passes = [dice.randint(0, days + 2) for _ in range(3)]
                self.asked(depot, days, passes)
                kinds.update(reason[0] for reason in all_reasons(depot, days, passes))
        self.assertEqual(kinds, {"sum", "weekday", "beyond", "early"})

    def test_greater_depots(self):
        dice = new_dice(31)
        for _ in range(300):
            depot = random_depot(dice)
            book = random_book(dice, depot, dice.randint(0, 8), dice.choice([5, 20, FAR // 8]))
            passes = list(walk(depot, book).passes)
            self.assertEqual(self.judged(depot, book.days, passes), ("possible",))
            one, two = dice.randrange(depot.size), dice.randrange(depot.size)
            change = dice.randint(0, passes[one])
            passes[one] -= change
            passes[two] += change
            self.judged(depot, book.days, passes)
            self.asked(depot, book.days, passes)


class KindsTest(PromiseTest):
    """Each kind of reason with its numbers."""

    depot = Depot(3, 1, [1, 1, 2, 3])

    def test_possible(self):
        self.same(judge(self.depot, 7, [1, 2, 2, 2]), ("possible",))
        self.same(all_reasons(self.depot, 7, (1, 2, 2, 2)), [])
        self.assertIs(possible(self.depot, 7, [1, 2, 2, 2]), True)
        self.same(judge(depot=self.depot, days=0, passes=(0, 0, 0, 0)), ("possible",))

    def test_sum(self):
        self.same(judge(self.depot, 7, [2, 0, 4, 2]), ("sum", 8, 7))
        self.same(judge(self.depot, 0, [FAR, 0, 0, 0]), ("sum", FAR, 0))
        self.assertIs(possible(self.depot, 7, [2, 0, 4, 2]), False)

    def test_weekday(self):
        self.same(judge(self.depot, 7, [2, 0, 4, 1]), ("weekday", 1, 2, 1))
        self.same(judge(Depot(3, 1, [1, 2, 2]), 4, [2, 1, 1]), ("weekday", 2, 0, 3))
        self.same(judge(Depot(4, 1, [1, 3, 3, 3]), 6, [3, 1, 1, 1]), ("weekday", 3, 0, 4))
        self.same(judge(Depot(4, 2, [1, 1, 1]), 3, [1, 1, 4]), ("weekday", 2, 2, 0))

    def test_beyond(self):
        self.same(judge(Depot(2, 1, [1, 2, 1]), 4, [0, 4, 0]), ("beyond", 1, 6))
        self.same(judge(Depot(2, 1, [1, 2, 2]), 2, [0, 0, 2]), ("beyond", 2, 4))
        self.same(judge(Depot(2, 2, [1, 1, 2, 2]), 2, [0, 0, 2, 2]), ("beyond", 2, 4))
        self.same(judge(Depot(4, 2, [1, 1, 1]), 7, [8, 3, 3]), ("beyond", 0, 9))

    def test_beyond_begins_behind_the_next_morning(self):
        depot = Depot(3, 1, [1, 1, 2, 3])
        self.same(judge(depot, 6, [6, 0, 0, 0]), ("possible",))
        self.same(judge(depot, 7, [1, 0, 6, 0]), ("possible",))
        self.same([reason for reason in all_reasons(depot, 7, [8, 8, 8, 8]) if reason[0] == "beyond"],
                  [("beyond", 0, 9), ("beyond", 1, 9), ("beyond", 2, 10), ("beyond", 3, 11)])
        self.same([reason for reason in all_reasons(depot, 7, [7, 7, 7, 5]) if reason[0] == "beyond"],
                  [("beyond", 2, 9)])

    def test_a_pass_of_0_is_never_beyond(self):
        depot = Depot(8, 1, [1, 8])
        self.same(judge(depot, 1, [1, 0]), ("possible",))
        self.same(all_reasons(depot, 1, [1, 0]), [])

    def test_early(self):
        self.same(judge(self.depot, 6, [0, 0, 3, 3]), ("early", 1, 2, 1))
        self.same(judge(Depot(3, 1, [1, 3, 3]), 7, [1, 3, 3]), ("early", 2, 1, 0))
        self.same(judge(Depot(2, 2, [1, 1, 2, 2]), 4, [0, 3, 2, 3]), ("early", 1, 1, 0))
        self.same(judge(Depot(2, 1, [1, 1]), 4, [0, 4]), ("possible",))

    def test_early_is_left_out_below_the_period(self):
        for depot in small_depots((2, 3, 4), (1,), (3,)):
            for days in range(depot.period):
                for passes in itertools.product(range(days + 1), repeat=3):
                    self.assertNotEqual(judge(depot, days, passes)[0], "early")

    def test_days_of_10_to_the_30(self):
        self.same(judge(self.depot, FAR, [FAR, 0, 0, 0]), ("possible",))
        self.same(judge(self.depot, FAR, [FAR - 1, 0, 0, 0]), ("sum", FAR - 1, FAR))
        self.same(judge(self.depot, FAR, [0, 0, FAR, 0]), ("weekday", 1, 2, 1))
        self.same(judge(self.depot, FAR, [0, 0, 0, FAR]), ("weekday", 1, 3, 1))
        self.same(judge(Depot(1, 1, [1, 1]), FAR, [FAR + 1, 0]), ("sum", FAR + 1, FAR))
        self.same(judge(Depot(2, 1, [1, 2]), FAR, [0, FAR]), ("beyond", 1, FAR + 2))

    def test_order_of_all_reasons(self):
        depot = Depot(3, 1, [1, 1, 2, 3])
        self.same(all_reasons(depot, 7, [0, 0, 0, 9]),
                  [("sum", 9, 7), ("weekday", 1, 2, 1), ("weekday", 2, 1, 2), ("beyond", 3, 12),
                   ("early", 1, 2, 1), ("early", 2, 3, 2)])
        self.same(all_reasons(depot, 1, [0, 0, 0, 0]),
                  [("sum", 0, 1), ("weekday", 1, 2, 1), ("weekday", 2, 1, 2), ("early", 1, 2, 1)])

    def test_tuples_that_never_stand(self):
        passes = [0, 0, 0, 9]
        for reason in ((), ("sum",), ("sum", 9), ("sum", 9, 7, 7), ("possible",), ("total", 9, 7), ("", 9, 7),
                       ("sum", 7, 9), ("weekday", 3, 1, 1), ("weekday", 0, 0, 1), ("weekday", 4, 0, 1),
                       ("beyond", 4, 12), ("beyond", -1, 12), ("beyond", 0, 1), ("early", 0, 1, 0),
                       ("early", 4, 3, 2), ("early", 3, 3, 3), ("weekday", 1, 2), ("beyond", 3), ("early", 1, 2)):
            self.assertIs(reason_stands(self.depot, 7, passes, reason), False)
        for reason in all_reasons(self.depot, 7, passes):
            self.assertIs(reason_stands(depot=self.depot, days=7, passes=passes, reason=reason), True)

    def test_due_of(self):
        self.same(self.untouched(due_of, self.depot, [1, 2, 2, 2]), [2, 3, 1, 2])
        self.same(due_of(depot=self.depot, passes=(FAR, 0, 0, FAR)), [2, 1, 2, 1])
        for depot in small_depots((1, 2, 3), (1,), (2,)):
            for passes in itertools.product(range(5), repeat=2):
                marks = [first + told for first, told in zip(depot.firsts, passes)]
                self.same(due_of(depot, passes), list(weekdays(depot.period, marks)))


class WrongArgumentsTest(PromiseTest):
    depot = Depot(3, 1, [1, 1, 2, 3])

    def calls(self):
        return (judge, possible, all_reasons, lambda depot, days, passes: reason_stands(depot, days, passes, ()))

    def test_days(self):
        for call in self.calls():
            for days in (-1, FAR + 1, -FAR, FAR ** 2):
                self.refused(OutOfRange, days, "days", call, self.depot, days, [-1])

    def test_passes(self):
        for call in self.calls() + (lambda depot, days, passes: due_of(depot, passes),):
            for many in (0, 1, 3, 5, 13):
                self.refused(BadPasses, many, "length", call, self.depot, 7, [-1] * many)
            self.refused(BadPasses, 0, "pass", call, self.depot, 7, [-1, 0, 0, -1])
            self.refused(BadPasses, 3, "pass", call, self.depot, FAR, (FAR, FAR, 0, -FAR))
            self.refused(BadPasses, 1, "pass", call, self.depot, 0, [FAR, -1, -2, -3])


if __name__ == "__main__":
    unittest.main()
