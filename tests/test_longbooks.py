"""Point 16: crews and books for possible passes."""

import itertools
import unittest

from outagain.books import Book
from outagain.crews import crews_fault, crews_seen, passes_of_crews
from outagain.depots import Depot
from outagain.errors import BadPasses, NoBook, OutOfRange
from outagain.judging import judge, possible
from outagain.longbooks import book_of_passes, crews_of_passes
from outagain.walking import walk
from tests.counting import weekdays, worlds
from tests.support import FAR, PromiseTest, new_dice, random_book, random_depot, small_depots


class LongBooksTest(PromiseTest):
    def has_all(self, depot, days, passes):
        marks = [first + told for first, told in zip(depot.firsts, passes)]
        crews = self.untouched(crews_of_passes, depot, days, passes)
        self.good_crews(depot, days, marks, crews)
        due = list(weekdays(depot.period, marks))
        self.same(crews_fault(depot, days, due, crews), ("fit",))
        self.same(passes_of_crews(depot, days, due, crews), list(passes))
        self.good_book(depot, days, passes, due)

    def good_crews(self, depot, days, marks, crews):
        self.assertIs(type(crews), list)
        self.assertLessEqual(len(crews), depot.size + 1)
        self.assertEqual(sum(times for times, _ in crews), days // depot.period)
        for row in crews:
            self.same(row, (row[0], tuple(sorted(set(row[1])))))
            self.assertTrue(row[0] >= 1 and len(row[1]) == depot.quota)
        self.assertTrue(all(one[1] != two[1] for one, two in zip(crews, crews[1:])))
        for driver, mark in enumerate(marks):
            times = sum(times for times, crew in crews if driver in crew)
            self.assertEqual(times, (mark - 1) // depot.period)

    def good_book(self, depot, days, passes, due):
        book = self.untouched(book_of_passes, depot, days, passes)
        self.assertIs(type(book), Book)
        after = walk(depot, book)
        self.same((book.days, after.passes, after.due()), (days, tuple(passes), tuple(due)))
        most = (depot.size + 1) * (depot.period + 1) + depot.period
        self.assertLessEqual(len(book.stretches), most)

    def test_all_rows_of_small_depots(self):
        for depot in small_depots((1, 2, 3), (1, 2), (1, 2, 3)):
            told = worlds(depot.period, depot.quota, depot.firsts, 7)
            for days in range(8):
                found = {passes for _, passes in told[days]}
                for passes in sorted(found):
                    self.has_all(depot, days, passes)
                for passes in itertools.product(range(4), repeat=depot.size):
                    if passes not in found:
                        self.no_passes(depot, days, passes)

    def no_passes(self, depot, days, passes):
        reason = judge(depot, days, passes)
        self.no_book(NoBook, reason, crews_of_passes, depot, days, passes)
        self.no_book(NoBook, reason, book_of_passes, depot, days, passes)

    def test_four_and_five_drivers(self):
        for depot in small_depots((2, 3, 4), (2, 3), (4,)):
            days = 2 * depot.period + 1
            passes = sorted({told for _, told in worlds(depot.period, depot.quota, depot.firsts, days)[days]})
            for told in passes[::max(1, len(passes) // 12)]:
                self.has_all(depot, days, told)
        for days in range(13):
            depot = Depot(3, 2, [1, 1, 2, 3, 3])
            for told in sorted({told for _, told in worlds(3, 2, depot.firsts, days)[days]})[::3]:
                self.has_all(depot, days, list(told))

    def test_greater_depots(self):
        dice = new_dice(60)
        for _ in range(400):
            depot = random_depot(dice)
            book = random_book(dice, depot, dice.randint(0, 40), dice.choice([3, 10, 50, FAR // 40]))
            self.has_all(depot, book.days, list(walk(depot, book).passes))

    def test_even_passes_of_many_days(self):
        for period, quota, size in ((3, 1, 4), (8, 5, 12), (5, 12, 12), (8, 1, 12), (1, 3, 7), (7, 2, 9)):
            firsts = [1] * quota + [1 + at % period for at in range(size - quota)]
            depot = Depot(period, quota, firsts)
            days = FAR - FAR % (period * size)
            passes = [quota * days // size // period * period] * size
            left = quota * days - sum(passes)
            for driver in range(size):
                step = min(left, period)
                passes[driver] += step
                left -= step
            self.assertTrue(possible(depot, days, passes))
            self.has_all(depot, days, passes)

    def test_10_to_the_30_days(self):
        depot = Depot(3, 1, [1, 1, 2, 3])
        self.has_all(depot, FAR, [FAR, 0, 0, 0])
        self.has_all(depot, 3 * 10 ** 20, [10 ** 20 * 3 - 3, 0, 3, 0])
        self.no_book(NoBook, ("sum", FAR - 1, FAR), book_of_passes, depot, FAR, [FAR - 1, 0, 0, 0])
        self.no_book(NoBook, ("weekday", 1, 2, 1), crews_of_passes, depot, FAR, [0, 0, FAR, 0])

    def test_without_a_closing(self):
        depot = Depot(3, 1, [1, 1, 2, 3])
        self.same(crews_of_passes(depot, 0, [0, 0, 0, 0]), [])
        self.same(book_of_passes(depot, 0, [0, 0, 0, 0]).stretches, ())
        self.same(crews_of_passes(depot, 2, [2, 0, 0, 0]), [])
        self.same(book_of_passes(depot=depot, days=2, passes=(0, 2, 0, 0)).stretches, ((2, (1,)),))

    def test_one_closing(self):
        depot = Depot(3, 1, [1, 1, 2, 3])
        self.same(crews_of_passes(depot=depot, days=3, passes=(0, 1, 1, 1)), [(1, (3,))])

    def test_no_book_with_each_reason(self):
        depot = Depot(3, 1, [1, 1, 2, 3])
        for call in (crews_of_passes, book_of_passes):
            self.no_book(NoBook, ("sum", 8, 7), call, depot, 7, [2, 0, 4, 2])
            self.no_book(NoBook, ("weekday", 1, 2, 1), call, depot, 7, [2, 0, 4, 1])
            self.no_book(NoBook, ("beyond", 1, 6), call, Depot(2, 1, [1, 2, 1]), 4, [0, 4, 0])
            self.no_book(NoBook, ("early", 1, 2, 1), call, depot, 6, [0, 0, 3, 3])

    def test_wrong_arguments(self):
        depot = Depot(3, 1, [1, 1, 2, 3])
        for call in (crews_of_passes, book_of_passes):
            for days in (-1, FAR + 1):
                self.refused(OutOfRange, days, "days", call, depot, days, [-1])
            self.refused(BadPasses, 3, "length", call, depot, 7, [-1, 0, 0])
            self.refused(BadPasses, 5, "length", call, depot, 7, [0] * 5)
            self.refused(BadPasses, 2, "pass", call, depot, 7, [99, 0, -1, -FAR])

    def test_crews_of_the_book(self):
        depot = Depot(3, 1, [1, 1, 2, 3])
        self.same(crews_seen(depot, book_of_passes(depot, 6, [6, 0, 0, 0])), [(2, (0,))])


if __name__ == "__main__":
    unittest.main()
