"""Points 17 to 20: wishes."""

import itertools
import unittest

from outagain.books import Book
from outagain.depots import Depot
from outagain.errors import BadWish, NoBook, OutOfRange
from outagain.walking import walk
from outagain.wishes import book_of_wish, day_rows, least_day, reach, reach_stands
from tests.counting import weekdays, worlds
from tests.reasons import ReasonTest, due_places, wish_numbers
from tests.support import FAR, new_dice, random_book, random_depot, small_depots

SMALL = ((1, 2, 3), (1, 2), (1, 2, 3))


def dues_by_days(depot, most_days):
    """For each number of days from 0 on, the due weekdays of all books."""
    return [{weekdays(depot.period, nexts) for nexts, _ in found}
            for found in worlds(depot.period, depot.quota, depot.firsts, most_days)]


def completions(dues, wish):
    return {due for due in dues if all(told in (0, c) for told, c in zip(wish, due))}


def wishes(depot):
    return itertools.product(range(depot.period + 1), repeat=depot.size)


class ReachTest(ReasonTest):
    def answered(self, depot, days, wish, reached=None):
        """The answer is right by counting, and a due row of the answer is one of those of the books."""
        numbers = wish_numbers(depot, days, wish)
        answer = self.untouched(reach, depot, days, wish)
        if any(breaks for _, breaks in numbers):
            self.right_reason(answer, numbers)
            self.assertIn(reached, (None, set()))
        else:
            self.same(answer, ("reached", [int(c) for c in answer[1]]))
            right = self.fits(depot, days, wish, answer[1]) if reached is None else tuple(answer[1]) in reached
            self.assertTrue(right)
        return answer

    def fits(self, depot, days, wish, due):
        self.assertTrue(all(told in (0, c) for told, c in zip(wish, due)))
        self.assertEqual([due.count(c) for c in range(1, depot.period + 1)], due_places(depot, days))
        return not any(breaks for _, breaks in wish_numbers(depot, days, due))

    def test_just_the_wishes_that_some_book_has(self):
        kinds = set()
        for depot in small_depots(*SMALL):
            for days, dues in enumerate(dues_by_days(depot, 8)):
                for wish in wishes(depot):
                    kinds.add(self.answered(depot, days, wish, completions(dues, wish))[0])
        self.assertEqual(kinds, {"reached", "crowd", "closings", "lasts"})

    def test_four_drivers(self):
        dice = new_dice(1)
        for depot in small_depots((2, 4), (1, 2), (4,)):
            all_wishes = list(wishes(depot))
            for days, dues in enumerate(dues_by_days(depot, 9)):
                for wish in dice.sample(all_wishes, 6):
                    self.answered(depot, days, wish, completions(dues, wish))

    def test_greater_depots(self):
        dice = new_dice(2)
        kinds = set()
        for _ in range(600):
            depot = random_depot(dice)
            days = dice.choice([dice.randint(0, 30), dice.randint(0, 100), dice.randint(0, FAR)])
            wish = [dice.choice([0, dice.randint(0, depot.period)]) for _ in range(depot.size)]
            kinds.add(self.answered(depot, days, wish)[0])
            days = dice.randint(0, 3 * depot.period)
            due = reach(depot, days, [0] * depot.size)[1]
            kinds.add(self.answered(depot, days, [dice.choice([0, c]) for c in dice.sample(due, len(due))])[0])
        self.assertEqual(kinds, {"reached", "crowd", "closings", "lasts"})

    def test_due_weekdays_of_books(self):
        dice = new_dice(3)
        for _ in range(200):
            depot = random_depot(dice)
            book = random_book(dice, depot, dice.randint(0, 12), dice.choice([5, 40, FAR // 12]))
            due = walk(depot, book).due()
            self.same(reach(depot, book.days, due), ("reached", list(due)))
            wish = [dice.choice([0, c]) for c in due]
            self.assertEqual(self.answered(depot, book.days, wish)[0], "reached")

    def test_nobody_and_everybody(self):
        dice = new_dice(4)
        for _ in range(200):
            depot = random_depot(dice)
            days = dice.choice([0, 1, depot.period - 1, depot.period, dice.randint(0, 99), FAR])
            due = self.answered(depot, days, [0] * depot.size)[1]
            self.same(reach(depot, days, due), ("reached", due))
            self.answered(depot, days, dice.sample(due, len(due)))

    def test_days_0_and_below_the_period(self):
        depot = Depot(3, 1, [1, 1, 2, 3])
        self.same(reach(depot, 0, [0, 0, 0, 0]), ("reached", [1, 1, 2, 3]))
        self.same(reach(depot, 0, (1, 1, 2, 3)), ("reached", [1, 1, 2, 3]))
        self.same(reach(depot, 2, [3, 1, 2, 3]), ("reached", [3, 1, 2, 3]))
        self.same(reach(depot, 2, [1, 0, 0, 3])[0], "reached")
        self.same(reach(depot, 0, [1, 2, 1, 3])[0], "closings")

    def test_each_kind_of_reason(self):
        depot = Depot(3, 1, [1, 1, 2, 3])
        self.same(reach(depot, 0, [2, 2, 0, 0]), ("crowd", 2, 2, 1))
        self.same(reach(depot, FAR - 1, [3, 3, 1, 1]), ("crowd", 3, 2, 1))
        self.same(reach(depot, 4, [3, 3, 1, 1]), ("crowd", 1, 2, 1))
        answer = reach(depot, 0, [1, 2, 1, 3])
        self.assertIn(answer, [("closings", r, 1, 0) for r in range(4)])
        answer = reach(depot, 3, [1, 2, 1, 2])
        self.assertEqual(answer, ("crowd", 2, 2, 1))
        answer = reach(depot, 3, [1, 3, 1, 2])
        self.assertIn(answer, [("closings", r, 2, 1) for r in range(4)])
        answer = reach(depot, 3, [1, 3, 0, 2])
        self.assertEqual(answer[0::3], ("closings", 1))
        answer = reach(Depot(3, 1, [1, 1, 3, 3]), 0, [3, 0, 0, 0])
        self.assertIn(answer, [("closings", 1, 1, 0), ("closings", 2, 1, 0)])
        answer = reach(Depot(3, 1, [1, 2, 3]), 3, [1, 3, 2])
        self.assertIn(answer, [("lasts", r, 1, 0) for r in (1, 2, 3)])

    def test_far_days(self):
        depot = Depot(8, 2, [1, 1, 8, 8, 8, 8, 8])
        due = [8, 8, 8, 8, 8, 1, 1]
        self.same(reach(depot, FAR, due), ("reached", due))
        self.same(reach(depot, FAR, [2, 0, 0, 0, 0, 0, 0]), ("crowd", 2, 1, 0))
        self.same(self.answered(depot, FAR, [0, 8, 1, 0, 1, 0, 0])[0], "reached")


class StandsTest(ReasonTest):
    def test_small_depots(self):
        dice = new_dice(5)
        kinds = set()
        for depot in small_depots((1, 2, 3), (1, 2), (2, 3)):
            for days in range(7):
                wish = [dice.choice([0, dice.randint(0, depot.period)]) for _ in range(depot.size)]
                numbers = wish_numbers(depot, days, wish)
                kinds.update(reason[0] for reason, breaks in numbers if breaks)
                self.asked(reach_stands, (depot, days, wish), numbers)
        self.assertEqual(kinds, {"crowd", "closings", "lasts"})

    def test_greater_depots(self):
        dice = new_dice(6)
        for _ in range(60):
            depot = random_depot(dice)
            wish = [dice.choice([0, dice.randint(0, depot.period)]) for _ in range(depot.size)]
            days = dice.choice([dice.randint(0, 20), FAR])
            self.asked(reach_stands, (depot, days, wish), wish_numbers(depot, days, wish))
            self.untouched(reach_stands, depot, days, wish, ("crowd", 1, 2, 1))

    def test_each_weekday_and_r_may_be_named(self):
        depot = Depot(3, 1, [1, 1, 2, 3])
        for reason in (("crowd", 2, 2, 1), ("crowd", 3, 2, 1), ("closings", 0, 1, 0), ("closings", 3, 1, 0)):
            self.assertIs(reach_stands(depot, 0, [2, 2, 3, 3], reason), reason[0] == "crowd")
            self.assertIs(reach_stands(depot=depot, days=0, wish=[1, 2, 1, 3], reason=reason), reason[0] == "closings")
        for r in (0, -1, 4, 1):
            self.assertIs(reach_stands(Depot(3, 1, [1, 2, 3]), 3, [1, 3, 2], ("lasts", r, 1, 0)), r == 1)
            self.assertIs(reach_stands(Depot(3, 1, [1, 2, 3]), 4, [1, 3, 2], ("lasts", r, 1, 0)), False)


class DaysTest(ReasonTest):
    def rows_by_days(self, depot, wish, most_days):
        """The rows of the weekdays, found by asking day by day; None for a weekday that is too late for it."""
        rows = []
        for c in range(1, depot.period + 1):
            due = due_places(depot, c - 1)
            crowds = [("crowd", c, d, list(wish).count(d), room) for d, room in enumerate(due, 1)
                      if list(wish).count(d) > room]
            days = [n for n in range(c - 1, most_days, depot.period) if reach(depot, n, wish)[0] == "reached"]
            self.assertEqual(days, list(range(days[0], most_days, depot.period)) if days else [])
            rows.append(crowds[0] if crowds else ("from", c, days[0]) if days else None)
        return rows

    def compared(self, depot, wish, most_days):
        rows = self.rows_by_days(depot, wish, most_days)
        self.same(self.untouched(day_rows, depot, wish), rows)
        answer = self.untouched(least_day, depot, wish)
        days = [row[2] for row in rows if row[0] == "from"]
        if not days:
            return self.same(answer, ("never",))
        self.same(answer[:2], ("least", min(days)))
        self.assertIs(type(answer[2]), list)
        self.assertTrue(all(told in (0, c) for told, c in zip(wish, answer[2])))
        self.same(reach(depot, min(days), answer[2]), ("reached", answer[2]))

    def test_small_depots(self):
        for depot in small_depots((1, 2, 3), (1, 2), (1, 2, 3)):
            for wish in wishes(depot):
                self.compared(depot, wish, 5 * depot.period)

    def test_greater_depots(self):
        dice = new_dice(7)
        for _ in range(60):
            depot = random_depot(dice)
            due = list(dice.choice([depot.firsts, reach(depot, dice.randint(0, 50), [0] * depot.size)[1]]))
            dice.shuffle(due)
            self.compared(depot, [dice.choice([0, c, c, c]) for c in due], 14 * depot.period)

    def test_period_1_and_8_with_1_and_12_drivers(self):
        self.compared(Depot(1, 1, [1]), [0], 14)
        self.compared(Depot(1, 1, [1]), [1], 14)
        self.compared(Depot(1, 5, [1] * 12), [1] * 12, 14)
        for c in range(9):
            self.compared(Depot(8, 1, [1]), [c], 112)
            self.compared(Depot(8, 3, [1, 1, 1, 1, 2, 3, 4, 5, 6, 7, 8, 8]), [c] * 4 + [0] * 8, 112)
        self.compared(Depot(8, 1, [1, 2, 3, 4, 5, 6, 7, 8, 8, 8, 8, 8]), [8, 8, 8, 8, 8, 7, 6, 5, 4, 3, 2, 1], 112)

    def test_behind_many_days(self):
        depot = Depot(8, 1, [1] + [8] * 11)
        wish = [8] + [8] * 10 + [1]
        self.same(day_rows(depot, wish)[0], ("from", 1, 8))
        depot = Depot(8, 1, [1, 1, 2, 3, 4, 5, 6, 7, 8, 8, 8, 8])
        wish = [8, 8, 1, 2, 3, 4, 5, 6, 7, 8, 8, 1]
        self.compared(depot, wish, 160)
        self.assertEqual(least_day(depot, wish)[1], 64)
        depot = Depot(2, 1, [1] * 6 + [2] * 5)
        self.same(least_day(depot, [2] * 5 + [1] * 6), ("least", 10, [2] * 5 + [1] * 6))
        depot = Depot(8, 1, [1] + [2] * 5 + [8] * 6)
        self.same(least_day(depot, [8] * 6 + [2] * 5 + [1])[1], 48)

    def test_the_least_weekday_of_a_crowd(self):
        depot = Depot(3, 1, [1, 1, 2, 3])
        self.same(day_rows(depot, [3, 3, 2, 2]), [("crowd", 1, 2, 2, 1), ("crowd", 2, 3, 2, 1), ("crowd", 3, 2, 2, 1)])
        self.same(least_day(depot, [3, 3, 2, 2]), ("never",))
        self.same(day_rows(depot, [3, 3, 0, 0]), [("crowd", 1, 3, 2, 1), ("crowd", 2, 3, 2, 1), ("from", 3, 5)])

    def test_wrong_arguments(self):
        depot = Depot(3, 1, [1, 1, 2, 3])
        for call in (day_rows, least_day):
            for many in (0, 3, 5):
                self.refused(BadWish, many, "length", call, depot, [9] * many)
            self.refused(BadWish, 0, "weekday", call, depot, [4, 0, 0, -1])
            self.refused(BadWish, 3, "weekday", call, depot, (0, 3, 1, -1))


class BookTest(ReasonTest):
    def has_book(self, depot, days, wish):
        answer = reach(depot, days, wish)
        if answer[0] != "reached":
            with self.assertRaises(NoBook) as caught:
                book_of_wish(depot, days, wish)
            self.right_reason(caught.exception.reason, wish_numbers(depot, days, wish))
            self.assertIs(reach_stands(depot, days, wish, caught.exception.reason), True)
            return
        book = self.untouched(book_of_wish, depot, days, wish)
        self.assertIs(type(book), Book)
        self.assertEqual(book.days, days)
        due = walk(depot, book).due()
        self.assertTrue(all(told in (0, c) for told, c in zip(wish, due)))
        most = (depot.size + 1) * (depot.period + 1) + depot.period
        self.assertLessEqual(len(book.stretches), most)

    def test_small_depots(self):
        dice = new_dice(8)
        for depot in small_depots(*SMALL):
            for days in range(10):
                for wish in dice.sample(list(wishes(depot)), min(12, (depot.period + 1) ** depot.size)):
                    self.has_book(depot, days, wish)

    def test_greater_depots(self):
        dice = new_dice(9)
        for _ in range(300):
            depot = random_depot(dice)
            days = dice.choice([dice.randint(0, 40), dice.randint(0, FAR)])
            due = reach(depot, days, [0] * depot.size)[1]
            dice.shuffle(due)
            self.has_book(depot, days, [dice.choice([0, c]) for c in due])
            self.has_book(depot, days, due)

    def test_far_days(self):
        for depot in (Depot(8, 1, [1] + [2] * 5 + [8] * 6), Depot(8, 4, [1] * 4 + [8, 7, 6, 5, 4, 3, 2, 1])):
            for days in (FAR, FAR - 1, FAR - 7):
                self.has_book(depot, days, [0] * 12)
                self.has_book(depot, days, reach(depot, days, [0] * 12)[1][::-1])

    def test_no_book(self):
        depot = Depot(3, 1, [1, 1, 2, 3])
        self.no_book(NoBook, ("crowd", 2, 2, 1), book_of_wish, depot, 0, [2, 2, 0, 0])
        with self.assertRaises(NoBook) as caught:
            book_of_wish(depot=depot, days=0, wish=(1, 2, 1, 3))
        self.assertIn(caught.exception.reason, [("closings", r, 1, 0) for r in range(4)])


class WrongArgumentsTest(ReasonTest):
    def test_order(self):
        depot = Depot(3, 1, [1, 1, 2, 3])
        for call in (reach, book_of_wish, lambda *args: reach_stands(*args, ())):
            for days in (-1, FAR + 1):
                self.refused(OutOfRange, days, "days", call, depot, days, [9])
            for many in (0, 3, 5):
                self.refused(BadWish, many, "length", call, depot, 7, [9] * many)
            self.refused(BadWish, 1, "weekday", call, depot, 7, [0, 4, -1, 9])
            self.refused(BadWish, 2, "weekday", call, depot, FAR, (2, 2, -1, 9))

    def test_what_is_returned_may_be_changed(self):
        depot = Depot(3, 1, [1, 1, 2, 3])
        wish = [2, 2, 1, 3]
        due = reach(depot, 4, wish)[1]
        due[0] = 9
        day_rows(depot, wish).clear()
        least_day(depot, wish)[2].clear()
        self.same(wish, [2, 2, 1, 3])
        self.same(reach(depot, 4, wish), ("reached", [2, 2, 1, 3]))
        self.same(least_day(depot, tuple(wish)), ("least", 4, [2, 2, 1, 3]))


if __name__ == "__main__":
    unittest.main()
