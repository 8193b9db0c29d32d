"""Points 13 and 14 and the crews of the interface."""

import itertools
import unittest

from outagain.books import Book
from outagain.crews import crews_fault, crews_seen, passes_of_crews
from outagain.deadlines import book_of_crews
from outagain.depots import Depot
from outagain.errors import BadBook, BadCrews, BadWish, NoBook, OutOfRange
from outagain.walking import walk
from tests.counting import all_books, crew_worlds, joined, weekdays
from tests.support import FAR, PromiseTest, new_dice, random_book, random_depot, small_depots


def regrouped(dice, crews):
    """The same crews with some rows cut into several rows of the same crew."""
    rows = []
    for times, crew in crews:
        while times > 1 and dice.random() < 0.4:
            many = dice.randint(1, times - 1)
            rows.append([many, list(crew)])
            times -= many
        rows.append((times, crew))
    return rows


def fault_by_words(depot, days, due, crews):
    """The fault, by the words of point 14."""
    last = days % depot.period + 1
    for c in range(1, depot.period + 1):
        room = depot.firsts.count(c) - (depot.quota if c == 1 else 0) + (depot.quota if c == last else 0)
        if list(due).count(c) != room:
            return ("weekday", c, list(due).count(c), room)
    for driver in range(depot.size):
        if due[driver] < depot.firsts[driver] and not any(driver in crew for _, crew in crews):
            return ("back", driver)
    for driver in (crews[-1][1] if days // depot.period else ()):
        if due[driver] > last:
            return ("last", driver)
    return ("fit",)


class SeenTest(PromiseTest):
    def test_all_books(self):
        for depot in small_depots((1, 2, 3), (1, 2), (1, 2, 3)):
            for days in range(7 if depot.quota == 1 else 5):
                for rows in all_books(depot.period, depot.quota, depot.firsts, days):
                    told = crews_seen(depot, Book(joined(rows)))
                    self.same(told, joined(rows[depot.period - 1::depot.period]))

    def test_greater_depots(self):
        dice = new_dice(40)
        for _ in range(150):
            depot = random_depot(dice)
            book = random_book(dice, depot, dice.randint(0, 12), 20)
            self.same(crews_seen(depot, book), joined(book.rows()[depot.period - 1::depot.period]))

    def test_long_stretches(self):
        depot = Depot(3, 1, [1, 1, 2, 3])
        self.same(crews_seen(depot, Book([(FAR, [1])])), [(FAR // 3, (1,))])
        self.same(crews_seen(depot, Book([(FAR - 1, [0]), (1, [1])])), [(FAR // 3, (0,))])
        self.same(crews_seen(depot, Book([(FAR - 2, [0]), (2, [3])])), [(FAR // 3 - 1, (0,)), (1, (3,))])
        book = Book([(5, [0]), (1, [3]), (FAR - 6, [1])])
        self.same(crews_seen(depot, book), [(1, (0,)), (1, (3,)), (FAR // 3 - 2, (1,))])
        dice = new_dice(41)
        for _ in range(60):
            depot = random_depot(dice)
            book = random_book(dice, depot, 12, FAR // 12)
            told = crews_seen(depot, book)
            self.assertEqual(sum(times for times, _ in told), book.days // depot.period)
            for at in {1, sum(times for times, _ in told) // 2, sum(times for times, _ in told)} - {0}:
                self.same(self.crew_of(told, at), book.runners_on(at * depot.period))

    def crew_of(self, crews, closing):
        for times, crew in crews:
            closing -= times
            if closing <= 0:
                return crew
        return None

    def test_equal_crews_with_others_between_are_joined(self):
        depot = Depot(3, 1, [1, 1, 2, 3])
        self.same(crews_seen(depot, Book([(3, [0]), (1, [1]), (1, [2]), (1, [3])])), [(1, (0,)), (1, (3,))])
        depot = Depot(2, 1, [1, 1, 1])
        book = Book([(2, [0]), (1, [1]), (1, [1]), (1, [2]), (1, [2])])
        self.same(crews_seen(depot, book), [(1, (0,)), (1, (1,)), (1, (2,))])
        book = Book([(1, [0]), (1, [0]), (2, [1]), (1, [1]), (1, [1])])
        self.same(crews_seen(depot, book), [(1, (0,)), (2, (1,))])
        depot = Depot(2, 1, [1, 2])
        self.same(crews_seen(depot, Book([(2, [0]), (1, [0]), (1, [0])])), [(2, (0,))])
        depot = Depot(3, 1, [1, 1])
        book = Book([(3, [0]), (1, [1]), (2, [1]), (3, [1])])
        self.same(crews_seen(depot, book), [(1, (0,)), (2, (1,))])

    def test_a_stretch_without_a_closing_parts_no_crews(self):
        depot = Depot(3, 1, [1, 2])
        book = Book([(1, [0]), (2, [1]), (1, [1]), (2, [1])])
        self.same(crews_seen(depot, book), [(2, (1,))])
        depot = Depot(4, 1, [1, 1, 2, 3])
        book = Book([(4, [0]), (1, [1]), (1, [2]), (1, [3]), (1, [3]), (2, [3])])
        self.same(crews_seen(depot, book), [(1, (0,)), (1, (3,))])

    def test_without_a_closing(self):
        self.same(crews_seen(Depot(3, 1, [1, 1, 2, 3]), Book([(1, [1]), (1, [2])])), [])
        self.same(crews_seen(Depot(8, 1, [1]), Book([(7, [0])])), [])
        self.same(crews_seen(Depot(8, 1, [1]), Book([(8, [0])])), [(1, (0,))])
        self.same(crews_seen(depot=Depot(1, 1, [1]), book=Book([])), [])

    def test_raises_as_walking(self):
        depot = Depot(3, 1, [1, 1, 2, 3])
        self.refused(BadBook, 1, "driver", crews_seen, depot, Book([(1, [1]), (1, [4])]))
        self.refused(BadBook, 0, "count", crews_seen, depot, Book([(1, [0, 1])]))
        self.refused(BadBook, 1, "away", crews_seen, depot, Book([(1, [1]), (1, [0])]))


class FaultTest(PromiseTest):
    depot = Depot(3, 1, [1, 1, 2, 3])

    def test_just_the_crews_that_some_book_has(self):
        dice = new_dice(42)
        kinds = set()
        for depot in small_depots((1, 2, 3), (1, 2), (1, 2, 3)):
            told = crew_worlds(depot.period, depot.quota, depot.firsts, 5)
            for days in range(6):
                found = {(weekdays(depot.period, nexts), crews): passes for nexts, passes, crews in told[days]}
                kinds |= self.compare(dice, depot, days, found)
        self.assertEqual(kinds, {"fit", "weekday", "back", "last"})

    def test_four_drivers(self):
        dice = new_dice(43)
        for depot in small_depots((2, 3), (1, 2), (4,)):
            told = crew_worlds(depot.period, depot.quota, depot.firsts, 5)
            for days in (3, 5):
                found = {(weekdays(depot.period, nexts), crews): passes for nexts, passes, crews in told[days]}
                self.compare(dice, depot, days, found)

    def compare(self, dice, depot, days, found):
        kinds = set()
        one_crew = list(itertools.combinations(range(depot.size), depot.quota))
        for due in itertools.product(range(1, depot.period + 1), repeat=depot.size):
            for row in itertools.product(one_crew, repeat=days // depot.period):
                crews = regrouped(dice, joined(row))
                fault = crews_fault(depot, days, list(due), crews)
                self.same(fault, fault_by_words(depot, days, due, crews))
                self.assertEqual(fault == ("fit",), (due, row) in found)
                if fault == ("fit",):
                    self.same(passes_of_crews(depot, days, due, crews), list(found[due, row]))
                kinds.add(fault[0])
        return kinds

    def test_greater_depots(self):
        dice = new_dice(44)
        for _ in range(200):
            depot = random_depot(dice)
            book = random_book(dice, depot, dice.randint(0, 20), dice.choice([5, 20, FAR // 20]))
            after, crews = walk(depot, book), crews_seen(depot, book)
            due = list(after.due())
            self.same(self.untouched(crews_fault, depot, book.days, due, crews), ("fit",))
            self.same(self.untouched(passes_of_crews, depot, book.days, due, crews), list(after.passes))
            dice.shuffle(due)
            fault = crews_fault(depot, book.days, tuple(due), tuple(crews))
            self.same(fault, fault_by_words(depot, book.days, due, crews))

    def test_fit(self):
        self.same(crews_fault(self.depot, 7, [2, 3, 1, 2], [(1, [3]), (1, [2])]), ("fit",))
        self.same(crews_fault(depot=self.depot, days=7, due=(2, 3, 1, 2), crews=((1, (3,)), [1, (2,)])), ("fit",))
        self.same(passes_of_crews(depot=self.depot, days=7, due=[2, 3, 1, 2], crews=[(1, [3]), (1, [2])]),
                  [1, 2, 2, 2])

    def test_weekday(self):
        self.same(crews_fault(self.depot, 7, [1, 3, 1, 2], [(2, [3])]), ("weekday", 1, 2, 1))
        self.same(crews_fault(self.depot, 7, [1, 2, 3, 3], [(2, [3])]), ("weekday", 2, 1, 2))
        self.same(crews_fault(Depot(3, 1, [1]), 2, [2], []), ("weekday", 2, 1, 0))

    def test_back(self):
        self.same(crews_fault(self.depot, 7, [2, 3, 1, 2], [(2, [3])]), ("back", 2))
        self.same(crews_fault(self.depot, 7, [2, 3, 1, 2], [(2, [2])]), ("back", 3))
        self.same(crews_fault(self.depot, 7, [2, 3, 1, 2], [(2, [0])]), ("back", 2))
        self.same(crews_fault(self.depot, 2, [2, 3, 1, 3], []), ("back", 2))
        self.same(crews_fault(self.depot, 2, [1, 3, 2, 3], []), ("fit",))

    def test_last(self):
        self.same(crews_fault(self.depot, 7, [3, 2, 2, 1], [(1, [3]), (1, [0])]), ("last", 0))
        self.same(crews_fault(self.depot, 7, [3, 2, 2, 1], [(1, [0]), (1, [3])]), ("fit",))
        depot = Depot(2, 2, [1, 1, 1, 1, 2, 2])
        self.same(crews_fault(depot, 2, [1, 2, 2, 1, 1, 1], [(1, [4, 5])]), ("fit",))
        self.same(crews_fault(depot, 4, [1, 2, 2, 1, 1, 1], [(1, [4, 5]), (1, [0, 2])]), ("last", 2))
        self.same(crews_fault(depot, 4, [1, 2, 2, 1, 1, 1], [(1, [4, 5]), (1, [1, 2])]), ("last", 1))

    def test_weekday_ahead_of_back_ahead_of_last(self):
        self.same(crews_fault(self.depot, 7, [3, 1, 1, 1], [(2, [0])]), ("weekday", 1, 3, 1))
        self.same(crews_fault(self.depot, 7, [3, 2, 2, 1], [(2, [0])]), ("back", 3))

    def test_no_days(self):
        self.same(crews_fault(self.depot, 0, [1, 1, 2, 3], []), ("fit",))
        self.same(passes_of_crews(self.depot, 0, [1, 1, 2, 3], []), [0, 0, 0, 0])
        self.same(crews_fault(self.depot, 0, [1, 2, 1, 3], []), ("back", 2))

    def test_days_of_10_to_the_30(self):
        closings = FAR // 3
        self.same(crews_fault(self.depot, FAR, [2, 1, 2, 3], [(closings, [0])]), ("fit",))
        self.same(passes_of_crews(self.depot, FAR, [2, 1, 2, 3], [(closings, [0])]), [FAR, 0, 0, 0])
        self.same(crews_fault(self.depot, FAR, [3, 2, 2, 1], [(closings - 1, [3]), (1, [0])]), ("last", 0))

    def test_no_book(self):
        self.no_book(NoBook, ("back", 2), passes_of_crews, self.depot, 7, [2, 3, 1, 2], [(2, [3])])
        self.no_book(NoBook, ("weekday", 1, 2, 1), passes_of_crews, self.depot, 7, [1, 3, 1, 2], [(2, [3])])
        self.no_book(NoBook, ("last", 0), passes_of_crews, self.depot, 7, [3, 2, 2, 1], [(1, [3]), (1, [0])])


class WrongArgumentsTest(PromiseTest):
    depot = Depot(3, 2, [1, 1, 1, 2, 3])
    due = [1, 1, 1, 2, 3]

    def wrong(self, kind, at, code, days, due, crews):
        for call in (crews_fault, passes_of_crews, book_of_crews):
            self.refused(kind, at, code, call, self.depot, days, due, crews)

    def test_days(self):
        for days in (-1, FAR + 1, -FAR, FAR ** 2):
            self.wrong(OutOfRange, days, "days", days, [], [(0, [])] * 41)

    def test_due_length(self):
        for many in (0, 1, 4, 6, 13):
            self.wrong(BadWish, many, "length", 6, [0] * many, [(0, [])] * 41)

    def test_due_weekday(self):
        self.wrong(BadWish, 1, "weekday", 6, [1, 0, 4, 1, 1], [(0, [])] * 41)
        self.wrong(BadWish, 4, "weekday", 6, [1, 1, 3, 1, 4], [(0, [])] * 41)
        self.wrong(BadWish, 0, "weekday", 6, [-FAR, 1, 1, 1, FAR], [])
        self.wrong(BadWish, 2, "weekday", 6, (1, 1, FAR, 1, 1), [])

    def test_rows(self):
        self.wrong(BadCrews, 40, "rows", 6, self.due, [(0, [])] * 41)
        self.wrong(BadCrews, 40, "rows", 41 * 3, self.due, [(1, [0, 1])] * 41)
        self.wrong(BadCrews, 40, "rows", 6, self.due, [(1, [0, 1])] * 1000)
        self.assertEqual(crews_fault(self.depot, 40 * 3, self.due, [(1, [0, 1]), (1, [0, 2])] * 20), ("fit",))

    def test_times(self):
        for times in (0, -1, -FAR):
            self.wrong(BadCrews, 0, "times", 6, self.due, [(times, [])])
            self.wrong(BadCrews, 1, "times", 6, self.due, [(3, [0, 1]), (times, [0, 1]), (1, [])])

    def test_crew(self):
        for crew in ([], [0], [0, 1, 2], [1, 0], [1, 1], [0, 5], [-1, 0], [3, FAR], (4, 3)):
            self.wrong(BadCrews, 0, "crew", 6, self.due, [(FAR, crew), (0, [0, 1])])
            self.wrong(BadCrews, 2, "crew", 6, self.due, [(1, [0, 1]), (1, [2, 3]), (1, crew), (-1, [])])

    def test_total(self):
        for times in (1, 3, FAR):
            self.wrong(BadCrews, times, "total", 6, self.due, [(times, [0, 1])])
        self.wrong(BadCrews, 3, "total", 6, self.due, [(1, [0, 1]), (2, [0, 1])])
        self.wrong(BadCrews, 0, "total", 6, self.due, [])
        self.wrong(BadCrews, 1, "total", 2, self.due, [(1, [0, 1])])
        self.wrong(BadCrews, 2, "total", 5, self.due, [(2, [0, 1])])

    def test_total_behind_all_rows(self):
        self.wrong(BadCrews, 1, "crew", 6, self.due, [(3, [0, 1]), (1, [0])])

    def test_crews_ahead_of_the_fault(self):
        self.wrong(BadCrews, 1, "total", 6, [3, 3, 3, 3, 3], [(1, [0, 1])])


if __name__ == "__main__":
    unittest.main()
