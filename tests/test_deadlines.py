"""Point 15: books for due weekdays and crews."""

import itertools
import unittest

from outagain.books import Book
from outagain.crews import crews_fault, crews_seen, passes_of_crews
from outagain.deadlines import book_of_crews
from outagain.depots import Depot
from outagain.errors import NoBook
from outagain.walking import walk
from tests.counting import crew_worlds, joined, weekdays
from tests.support import FAR, PromiseTest, new_dice, random_book, random_depot, small_depots


class BookOfCrewsTest(PromiseTest):
    def has_all(self, depot, days, due, crews):
        """The book has what it was asked for; crews may have equal neighbours."""
        book = self.untouched(book_of_crews, depot, days, due, crews)
        self.assertIs(type(book), Book)
        after = walk(depot, book)
        self.same((after.days, after.due()), (days, tuple(due)))
        closings = [(times, tuple(crew)) for times, crew in crews]
        joined_crews = []
        for times, crew in closings:
            if joined_crews and joined_crews[-1][1] == crew:
                joined_crews[-1] = (joined_crews[-1][0] + times, crew)
            else:
                joined_crews.append((times, crew))
        self.same(crews_seen(depot, book), joined_crews)
        self.same(list(after.passes), passes_of_crews(depot, days, due, crews))
        self.assertLessEqual(len(book.stretches), len(crews) * (depot.period + 1) + depot.period)
        return book

    def test_all_crews_of_small_depots(self):
        for depot in small_depots((1, 2, 3), (1, 2), (1, 2, 3)):
            told = crew_worlds(depot.period, depot.quota, depot.firsts, 6)
            for days in range(7):
                self.compare(depot, days, {(weekdays(depot.period, nexts), crews) for nexts, _, crews in told[days]})

    def compare(self, depot, days, found):
        one_crew = list(itertools.combinations(range(depot.size), depot.quota))
        for due in itertools.product(range(1, depot.period + 1), repeat=depot.size):
            for row in itertools.product(one_crew, repeat=days // depot.period):
                crews = joined(row)
                if (due, row) in found:
                    self.has_all(depot, days, due, crews)
                else:
                    fault = crews_fault(depot, days, due, crews)
                    self.no_book(NoBook, fault, book_of_crews, depot, days, due, crews)

    def test_all_crews_of_four_drivers(self):
        for depot in small_depots((2, 3, 4), (1, 2), (4,)):
            days = depot.period + 2
            told = crew_worlds(depot.period, depot.quota, depot.firsts, days)
            for nexts, _, row in told[days]:
                self.has_all(depot, days, list(weekdays(depot.period, nexts)), joined(row))

    def test_greater_depots(self):
        dice = new_dice(50)
        for _ in range(400):
            depot = random_depot(dice)
            book = random_book(dice, depot, dice.randint(0, 40), dice.choice([3, 10, 50, FAR // 40]))
            crews = crews_seen(depot, book)
            self.assertLessEqual(len(crews), 40)
            self.has_all(depot, book.days, list(walk(depot, book).due()), crews)

    def test_rows_with_equal_neighbours(self):
        depot = Depot(3, 1, [1, 1, 2, 3])
        self.has_all(depot, 7, [2, 1, 2, 3], [(1, [0]), (1, [0])])
        self.has_all(depot, 3 * 40 + 1, (2, 1, 2, 3), [(1, [0])] * 40)
        self.has_all(depot, FAR, (2, 1, 2, 3), [[FAR // 3 - 7, (0,)], (5, [0]), (2, [0])])
        dice = new_dice(51)
        for _ in range(100):
            depot = random_depot(dice)
            book = random_book(dice, depot, dice.randint(0, 12), 30)
            crews = [(times, crew) for times, crew in crews_seen(depot, book) for times in self.parts(dice, times)]
            self.has_all(depot, book.days, walk(depot, book).due(), crews)

    def parts(self, dice, times):
        one = dice.randint(1, times)
        return [one, times - one] if one < times else [times]

    def test_40_rows(self):
        dice = new_dice(52)
        for period in range(1, 9):
            depot = Depot(period, 2, [1, 1, 1, period, period])
            crews = self.unlike_crews(dice, depot, 40)
            days = sum(times for times, _ in crews) * period
            self.has_all(depot, days, self.fitting_due(depot, days, crews), crews)

    def unlike_crews(self, dice, depot, rows):
        crews = []
        pairs = list(itertools.combinations(range(depot.size), depot.quota))
        for _ in range(rows):
            crew = dice.choice([pair for pair in pairs if not crews or crews[-1][1] != pair])
            crews.append((dice.choice([1, 2, FAR // 400]), crew))
        return crews

    def fitting_due(self, depot, days, crews):
        for due in sorted(set(itertools.permutations(depot.firsts))):
            if crews_fault(depot, days, due, crews) == ("fit",):
                return due
        raise AssertionError("no due weekdays fit")

    def test_no_days(self):
        depot = Depot(3, 1, [1, 1, 2, 3])
        self.same(book_of_crews(depot, 0, [1, 1, 2, 3], []).stretches, ())

    def test_days_without_a_closing(self):
        depot = Depot(3, 1, [1, 1, 2, 3])
        self.has_all(depot, 1, [1, 2, 2, 3], [])
        self.has_all(depot, 2, [1, 3, 2, 3], [])
        self.has_all(depot, 2, [3, 1, 2, 3], [])

    def test_10_to_the_30_days(self):
        depot = Depot(3, 1, [1, 1, 2, 3])
        book = self.has_all(depot, FAR, [2, 1, 2, 3], [(FAR // 3, [0])])
        self.same(walk(depot, book).passes, (FAR, 0, 0, 0))
        self.has_all(depot, FAR, [3, 2, 2, 1], [(FAR // 9, [0]), (FAR // 3 - FAR // 9, [3])])

    def test_no_book(self):
        depot = Depot(3, 1, [1, 1, 2, 3])
        self.no_book(NoBook, ("back", 2), book_of_crews, depot, 7, [2, 3, 1, 2], [(2, [3])])
        self.no_book(NoBook, ("weekday", 1, 2, 1), book_of_crews, depot, 7, [1, 3, 1, 2], [(2, [3])])
        self.no_book(NoBook, ("last", 0), book_of_crews, depot, 7, [3, 2, 2, 1], [(1, [3]), (1, [0])])

    def test_arguments_by_name(self):
        book = book_of_crews(depot=Depot(2, 1, [1, 2]), days=2, due=(1, 2), crews=((1, (0,)),))
        self.same(book.stretches, ((2, (0,)),))


if __name__ == "__main__":
    unittest.main()
