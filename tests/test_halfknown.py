"""Points 22 and 23: rows of passes that are only partly known."""

import itertools
import unittest

from outagain.depots import Depot
from outagain.errors import BadPasses, OutOfRange
from outagain.halfknown import complete, told_stands
from outagain.judging import possible
from outagain.walking import walk
from tests.counting import worlds
from tests.reasons import ReasonTest, told_numbers
from tests.support import FAR, new_dice, random_book, random_depot, small_depots

ALL_KINDS = {"beyond", "crowd", "early", "closings", "lasts", "more"}


def passes_by_days(depot, most_days):
    """For each number of days from 0 on, the possible rows."""
    return [sorted({passes for _, passes in found})
            for found in worlds(depot.period, depot.quota, depot.firsts, most_days)]


def completions(rows, told):
    return [row for row in rows if all(known in (None, one) for known, one in zip(told, row))]


def half_told(dice, row, share=0.5):
    return [None if dice.random() < share else known for known in row]


class CompleteTest(ReasonTest):
    def answered(self, depot, days, told):
        """The answer is right by counting, and a row of the answer is possible with the told passes."""
        numbers = told_numbers(depot, days, told)
        answer = self.untouched(complete, depot, days, told)
        if any(breaks for _, breaks in numbers):
            self.right_reason(answer, numbers)
        else:
            self.same(answer, ("passes", [int(known) for known in answer[1]]))
            self.assertTrue(possible(depot, days, answer[1]))
            self.assertEqual(completions([answer[1]], told), [answer[1]])
        return answer

    def test_just_the_rows_that_some_book_has(self):
        kinds = set()
        for depot in small_depots((1, 2, 3), (1, 2), (1, 2, 3)):
            for days, rows in enumerate(passes_by_days(depot, 5)):
                for told in itertools.product([None, *range(days + 2)], repeat=depot.size):
                    answer = self.answered(depot, days, told)
                    self.assertEqual(answer[0] == "passes", completions(rows, told) != [])
                    if answer[0] == "passes":
                        self.assertIn(tuple(answer[1]), rows)
                    kinds.add(answer[0])
        self.assertEqual(kinds, ALL_KINDS | {"passes"})

    def test_four_drivers(self):
        dice = new_dice(1)
        for depot in small_depots((2, 4), (1, 2), (4,)):
            for days, rows in enumerate(passes_by_days(depot, 9)):
                for told in [half_told(dice, dice.choice(rows)) for _ in range(3)]:
                    self.assertEqual(self.answered(depot, days, told)[0], "passes")
                    told[dice.randrange(4)] = dice.randint(0, days + 1)
                    self.assertEqual(self.answered(depot, days, told)[0] == "passes", completions(rows, told) != [])

    def test_greater_depots(self):
        dice = new_dice(2)
        kinds = set()
        for _ in range(500):
            depot = random_depot(dice)
            book = random_book(dice, depot, dice.randint(0, 12), dice.choice([5, 20, FAR // 12]))
            passes = walk(depot, book).passes
            told = half_told(dice, passes)
            self.assertEqual(self.answered(depot, book.days, told)[0], "passes")
            one = dice.randrange(depot.size)
            told[one] = dice.randint(0, passes[one] + depot.period)
            kinds.add(self.answered(depot, book.days, told)[0])
            told[one] = passes[one] % depot.period + depot.period * dice.randint(0, 2)
            kinds.add(self.answered(depot, book.days, told)[0])
        self.assertEqual(kinds, ALL_KINDS - {"lasts"} | {"passes"})

    def test_late_drivers_in_many_crews(self):
        dice = new_dice(6)
        kinds = set()
        for _ in range(300):
            depot = random_depot(dice)
            days = depot.period * dice.randint(2, 4) + dice.randrange(depot.period)
            closings, last = divmod(days, depot.period)
            left = depot.quota * closings - dice.randint(0, depot.quota)
            told = [None] * depot.size
            row = complete(depot, days, told)[1]
            for driver in dice.sample(range(depot.size), depot.size):
                c = (depot.firsts[driver] + row[driver] - 1) % depot.period + 1
                crews = min(left, closings - 1)
                if c > last + 1 and c - depot.firsts[driver] + depot.period * crews >= 0:
                    told[driver] = c - depot.firsts[driver] + depot.period * crews
                    left -= crews
            kinds.add(self.answered(depot, days, told)[0])
        self.assertLessEqual({"passes", "lasts"}, kinds)

    def test_all_none_and_only_none(self):
        dice = new_dice(3)
        for _ in range(150):
            depot = random_depot(dice)
            book = random_book(dice, depot, dice.randint(0, 8), dice.choice([5, FAR // 8]))
            passes = walk(depot, book).passes
            self.same(self.answered(depot, book.days, passes), ("passes", list(passes)))
            row = self.answered(depot, book.days, [None] * depot.size)[1]
            self.same(complete(depot, book.days, row), ("passes", row))
            changed = list(row)
            changed[0] += depot.period
            self.assertNotEqual(self.answered(depot, book.days, changed)[0], "passes")
            for days in (0, 1, depot.period, FAR):
                self.assertEqual(self.answered(depot, days, [None] * depot.size)[0], "passes")

    def test_days_0(self):
        depot = Depot(3, 1, [1, 1, 2, 3])
        self.same(complete(depot, 0, [None] * 4), ("passes", [0, 0, 0, 0]))
        self.same(complete(depot, 0, (0, None, 0, None)), ("passes", [0, 0, 0, 0]))
        self.same(complete(depot, 0, [None, 1, None, None]), ("beyond", 1, 2))
        self.same(complete(depot, 2, [2, None, None, None]), ("passes", [2, 0, 0, 0]))

    def test_each_kind_of_reason(self):
        depot = Depot(3, 1, [1, 1, 2, 3])
        self.same(complete(depot, 7, [8, None, 7, 6]), ("beyond", 0, 9))
        self.same(complete(depot, 7, [None, None, 7, 5]), ("beyond", 2, 9))
        self.same(complete(depot, 7, [0, 3, None, None]), ("crowd", 1, 2, 1))
        self.same(complete(depot, 7, [None, None, 1, 3]), ("crowd", 3, 2, 1))
        self.same(complete(depot, 6, [0, 0, None, None]), ("early", 1, 2, 1))
        self.same(complete(depot, 8, [1, 1, 0, None]), ("crowd", 2, 3, 1))
        self.same(complete(Depot(3, 1, [1, 2, 2, 3]), 8, [0, 0, 0, None]), ("crowd", 1, 1, 0))
        self.assertIn(complete(depot, 6, [6, 1, None, None]), [("closings", r, 1, 0) for r in range(4)])
        self.assertIn(complete(depot, 6, [4, 5, None, None]), [("closings", 1, 2, 0), ("closings", 2, 1, 0)])
        answer = complete(Depot(3, 1, [1, 3, 2, 3]), 6, [None, 0, 3, 3])
        self.assertIn(answer, [("lasts", r, 1, 0) for r in (1, 2, 3)])
        self.same(complete(depot, 6, [0, 3, 0, 0]), ("more", 1, 0))

    def test_far_days(self):
        depot = Depot(3, 1, [1, 1, 2, 3])
        self.same(complete(depot, FAR, [None, 0, 0, 0]), ("passes", [FAR, 0, 0, 0]))
        self.same(complete(depot, FAR, [FAR - 2, None, 0, 0]), ("crowd", 3, 2, 1))
        self.same(complete(depot, FAR, [None, 0, 0, FAR + 1]), ("beyond", 3, FAR + 4))
        self.same(complete(depot, FAR, [FAR, None, 3, None])[0], "closings")
        self.same(complete(depot, FAR, [FAR * FAR, None, 3, None]), ("beyond", 0, FAR * FAR + 1))


class StandsTest(ReasonTest):
    def test_small_depots(self):
        dice = new_dice(4)
        kinds = set()
        for depot in small_depots((1, 2, 3), (1, 2), (2, 3)):
            for days in range(7):
                told = half_told(dice, [dice.randint(0, days + 2) for _ in range(depot.size)])
                numbers = told_numbers(depot, days, told)
                kinds.update(reason[0] for reason, breaks in numbers if breaks)
                self.asked(told_stands, (depot, days, told), numbers)
        self.assertEqual(kinds, ALL_KINDS)

    def test_greater_depots(self):
        dice = new_dice(5)
        for _ in range(60):
            depot = random_depot(dice)
            book = random_book(dice, depot, dice.randint(0, 8), dice.choice([5, 20, FAR // 8]))
            passes = [max(0, known + dice.choice([0, 0, 1, -1])) for known in walk(depot, book).passes]
            told = half_told(dice, passes)
            self.asked(told_stands, (depot, book.days, told), told_numbers(depot, book.days, told))
            self.untouched(told_stands, depot, book.days, told, ("more", 1, 0))

    def test_early_names_the_last_weekday_alone(self):
        depot = Depot(3, 1, [1, 1, 2, 3])
        for told, c, have, room in (([0, 0, 0, None], 1, 2, 1), ([0, 0, 0, None], 2, 3, 2), ([0, 0, 0, 0], 3, 4, 3)):
            for days in range(9):
                right = days >= 3 and days % 3 + 1 == c
                self.assertIs(told_stands(depot, days, told, ("early", c, have, room)), right)

    def test_by_names(self):
        depot = Depot(3, 1, [1, 1, 2, 3])
        self.assertIs(told_stands(depot=depot, days=7, told=(0, 1, 0, None), reason=("more", 2, 1)), True)
        self.assertIs(told_stands(depot=depot, days=7, told=[0, 1, 0, None], reason=("more", 1, 2)), False)
        self.same(complete(depot=depot, days=7, told=(0, 1, 0, None)), ("early", 2, 3, 2))


class WrongArgumentsTest(ReasonTest):
    def test_order(self):
        depot = Depot(3, 1, [1, 1, 2, 3])
        for call in (complete, lambda *args: told_stands(*args, ())):
            for days in (-1, FAR + 1):
                self.refused(OutOfRange, days, "days", call, depot, days, [-1])
            for many in (0, 3, 5):
                self.refused(BadPasses, many, "length", call, depot, 7, [-1] * many)
                self.refused(BadPasses, many, "length", call, depot, 7, (None,) * many)
            self.refused(BadPasses, 2, "pass", call, depot, 7, [None, 99, -1, -9])
            self.refused(BadPasses, 0, "pass", call, depot, FAR, (-FAR, None, None, -1))
            self.refused(BadPasses, 3, "pass", call, depot, 0, (None, None, None, -1))

    def test_what_is_returned_may_be_changed(self):
        depot = Depot(3, 1, [1, 1, 2, 3])
        told = [1, 2, 2, 2]
        row = complete(depot, 7, told)[1]
        row[0] = 9
        self.same(told, [1, 2, 2, 2])
        self.same(complete(depot, 7, told), ("passes", [1, 2, 2, 2]))
        self.same(complete(depot, 7, tuple(told)), ("passes", [1, 2, 2, 2]))


if __name__ == "__main__":
    unittest.main()
