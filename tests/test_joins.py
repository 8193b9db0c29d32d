"""Points 32 and 33: books and passes joined and cut, and turned depots."""

import itertools
import unittest

from outagain.books import Book
from outagain.depots import Depot
from outagain.errors import BadBook, BadPasses, NoBook, OutOfRange
from outagain.joins import cut, cut_passes, linked, turned
from outagain.judging import all_reasons, judge, possible
from outagain.longbooks import book_of_passes
from outagain.walking import After, walk
from tests.counting import all_books, joined, worlds
from tests.support import FAR, PromiseTest, alternating, new_dice, random_book, random_depot, small_depots


def told(after):
    return (after.days, after.passes, after.longs, after.nexts, after.due(), after.standing())


class LinkedTest(PromiseTest):
    def test_all_cuts_of_small_books(self):
        for depot in small_depots((1, 2, 3), (1, 2), (1, 2, 3)):
            days = 5 if depot.quota == 1 else 4
            for rows in all_books(depot.period, depot.quota, depot.firsts, days):
                whole = told(walk(depot, Book(joined(rows))))
                for one in range(days + 1):
                    books = (Book(joined(rows[:one])), Book(joined(rows[one:])))
                    self.same(told(linked(depot, *books)), whole)

    def test_several_books_of_greater_depots(self):
        dice = new_dice(1)
        for _ in range(150):
            depot = random_depot(dice)
            standing, books, whole = depot, [], Book([])
            for _ in range(dice.randint(0, 5)):
                book = random_book(dice, standing, dice.randint(0, 10), dice.choice([5, 30, FAR // 60]))
                standing = walk(standing, book).standing()
                books.append(book)
                whole = whole + book
            self.assertIs(type(linked(depot, *books)), After)
            self.same(told(linked(depot, *books)), told(walk(depot, whole)))

    def test_none_and_one(self):
        depot = Depot(3, 1, [1, 1, 2, 3])
        self.same(told(linked(depot)), (0, (0,) * 4, (0,) * 4, (1, 1, 2, 3), (1, 1, 2, 3), depot))
        book = Book.of_rows([[1], [2], [3], [3], [1], [2], [0]])
        self.same(told(linked(depot, book)), told(walk(depot, book)))
        self.same(told(linked(depot, Book([]), book, Book([]))), told(walk(depot, book)))
        self.same(linked(depot, Book([(1, [1])]), Book([(2, [1])])).passes, (0, 3, 0, 0))

    def test_more_than_400_stretches(self):
        depot = Depot(1, 1, [1, 1, 1])
        books = [Book(alternating(400, 2)) for _ in range(4)]
        expected = (3200, (1600, 1600, 0), (1600, 1600, 3200), (3201,) * 3, (1,) * 3, depot)
        self.same(told(linked(depot, *books)), expected)
        long = [Book(alternating(400, FAR // 1200)) for _ in range(3)]
        self.same(linked(depot, *long).days, FAR // 1200 * 1200)

    def test_the_most_days(self):
        depot = Depot(3, 1, [1, 1, 2, 3])
        after = linked(depot, Book([(FAR - 3, [1])]), Book([(3, [1])]))
        self.same((after.days, after.passes), (FAR, (0, FAR, 0, 0)))

    def test_the_first_book_that_does_not_fit(self):
        depot = Depot(3, 1, [1, 1, 2, 3])
        good = Book([(1, [1]), (1, [2]), (1, [3])])
        self.refused(BadBook, 1, "away", linked, depot, good, Book([(1, [3]), (1, [0])]), Book([(1, [9])]))
        self.refused(BadBook, 0, "driver", linked, depot, good, Book([(1, [4])]))
        self.refused(BadBook, 0, "count", linked, depot, Book([(1, [0, 1])]), Book([(1, [4])]))
        self.refused(BadBook, 2, "count", linked, depot, good, Book([]), Book([(1, [3]), (1, [1]), (1, [])]))
        self.refused(BadBook, 0, "away", linked, depot, good, good)

    def test_books_stay_as_they_are(self):
        depot = Depot(3, 1, [1, 1, 2, 3])
        book = Book([(1, [1]), (1, [2])])
        linked(depot, book, Book([(1, [3])]))
        self.same(book.stretches, ((1, (1,)), (1, (2,))))


class CutTest(PromiseTest):
    def cut_well(self, depot, book, days):
        parts = cut(depot, book, days)
        self.same(parts, (parts[0], parts[1], parts[2]))
        first, standing, second = parts
        self.assertEqual([type(part) for part in parts], [Book, Depot, Book])
        self.assertEqual((first.days, second.days), (days, book.days - days))
        self.same((first + second).stretches, book.stretches)
        self.same(told(linked(depot, first, second)), told(walk(depot, book)))
        self.assertEqual(standing, walk(depot, first).standing())
        self.assertEqual(walk(standing, second).standing(), walk(depot, book).standing())

    def test_small_books(self):
        for depot in small_depots((1, 2, 3), (1, 2), (2, 3)):
            for rows in all_books(depot.period, depot.quota, depot.firsts, 4)[::3]:
                for days in range(5):
                    self.cut_well(depot, Book(joined(rows)), days)

    def test_at_the_ends_between_and_within_stretches(self):
        dice = new_dice(2)
        for _ in range(60):
            depot = random_depot(dice)
            book = random_book(dice, depot, dice.randint(1, 12), dice.choice([4, 40, FAR // 12]))
            ends = [0]
            for days, _ in book.stretches:
                ends.append(ends[-1] + days)
            for end in {*ends, *[end + 1 for end in ends[:-1]], dice.randint(0, book.days)}:
                self.cut_well(depot, book, end)

    def test_ordinary(self):
        depot = Depot(3, 1, [1, 1, 2, 3])
        first, standing, second = cut(depot=depot, book=Book([(2, [1]), (1, [3]), (2, [3])]), days=3)
        self.same((first.stretches, second.stretches), (((2, (1,)), (1, (3,))), ((2, (3,)),)))
        self.same((standing.period, standing.quota, standing.firsts), (3, 1, (1, 3, 2, 1)))

    def test_errors_in_their_order(self):
        depot = Depot(3, 1, [1, 1, 2, 3])
        book = Book([(2, [1]), (1, [3])])
        for days in (-1, 4, FAR, FAR + 1):
            self.refused(OutOfRange, days, "days", cut, depot, book, days)
            self.refused(BadBook, 1, "away", cut, depot, Book([(2, [1]), (1, [2])]), days)
            self.refused(BadBook, 0, "count", cut, depot, Book([(2, [1, 2])]), days)
        self.refused(OutOfRange, 1, "days", cut, depot, Book([]), 1)


class CutPassesTest(PromiseTest):
    def cut_well(self, depot, days, passes, front):
        parts = self.untouched(cut_passes, depot, days, passes, front)
        row, standing, rest = parts
        self.same(parts, (list(row), standing, list(rest)))
        self.assertIs(type(standing), Depot)
        self.same([one + two for one, two in zip(row, rest)], list(passes))
        self.assertTrue(possible(depot, front, row))
        self.assertEqual(standing, turned(depot, front, row))
        self.assertTrue(possible(standing, days - front, rest))

    def test_every_front_of_small_depots(self):
        for depot in small_depots((1, 2, 3), (1, 2), (1, 2, 3)):
            days = 6
            for passes in sorted({row for _, row in worlds(depot.period, depot.quota, depot.firsts, days)[days]})[::3]:
                for front in range(days + 1):
                    self.cut_well(depot, days, passes, front)

    def test_drawn_fronts(self):
        dice = new_dice(3)
        for _ in range(120):
            depot = random_depot(dice)
            book = random_book(dice, depot, dice.randint(0, 10), dice.choice([4, 40, FAR // 10]))
            passes = list(walk(depot, book).passes)
            for front in (0, book.days, dice.randint(0, book.days), dice.randint(0, book.days)):
                self.cut_well(depot, book.days, passes, front)
        self.cut_well(Depot(3, 1, [1, 1, 2, 3]), FAR, (FAR, 0, 0, 0), FAR // 7)

    def test_by_names(self):
        depot = Depot(3, 1, [1, 1, 2, 3])
        row, standing, rest = cut_passes(depot=depot, days=6, passes=[6, 0, 0, 0], front=4)
        self.same((row, standing.firsts, rest), ([4, 0, 0, 0], (1, 3, 1, 2), [2, 0, 0, 0]))

    def test_errors_in_their_order(self):
        depot = Depot(3, 1, [1, 1, 2, 3])
        for days in (-1, FAR + 1):
            self.refused(OutOfRange, days, "days", cut_passes, depot, days, [-1], -1)
        for many in (0, 3, 5):
            self.refused(BadPasses, many, "length", cut_passes, depot, 7, [-1] * many, -1)
        self.refused(BadPasses, 1, "pass", cut_passes, depot, 7, [0, -1, 0, -2], -1)
        for front in (-1, 8, FAR):
            self.refused(OutOfRange, front, "front", cut_passes, depot, 7, [1, 2, 2, 2], front)
            self.refused(OutOfRange, front, "front", cut_passes, depot, 7, [9, 9, 9, 9], front)
        for row in ([2, 0, 4, 2], [2, 0, 4, 1], [0, 0, 0, 9]):
            for front in (0, 3, 7):
                self.no_book(NoBook, judge(depot, 7, row), cut_passes, depot, 7, row, front)

    def test_what_is_returned_may_be_changed(self):
        depot = Depot(3, 1, [1, 1, 2, 3])
        passes = [1, 2, 2, 2]
        row, _, rest = cut_passes(depot, 7, passes, 7)
        row.clear()
        rest.clear()
        self.same(passes, [1, 2, 2, 2])
        self.same(cut_passes(depot, 7, passes, 7)[::2], ([1, 2, 2, 2], [0, 0, 0, 0]))


class TurnedTest(PromiseTest):
    def test_standing_behind_the_book(self):
        for depot in small_depots((1, 2, 3), (1, 2), (1, 2, 3)):
            for days, found in enumerate(worlds(depot.period, depot.quota, depot.firsts, 7)):
                for nexts, passes in sorted(found):
                    after = self.untouched(turned, depot, days, passes)
                    firsts = tuple(morning - days for morning in nexts)
                    self.assertEqual(after, Depot(depot.period, depot.quota, firsts))

    def test_greater_depots(self):
        dice = new_dice(4)
        for _ in range(150):
            depot = random_depot(dice)
            book = random_book(dice, depot, dice.randint(0, 10), dice.choice([4, 40, FAR // 10]))
            passes = list(walk(depot, book).passes)
            self.assertEqual(turned(depot, book.days, passes), walk(depot, book).standing())
            self.assertEqual(turned(depot, book.days, passes),
                             walk(depot, book_of_passes(depot, book.days, passes)).standing())

    def test_other_conditions_do_not_matter(self):
        depot = Depot(3, 1, [1, 1, 2, 3])
        self.same(turned(depot, 7, [4, 2, 2, 2]).firsts, (1, 2, 3, 1))
        self.same(turned(depot=depot, days=7, passes=(1, FAR * 3 + 2, 2, 2)).firsts, (1, 2, 3, 1))
        self.same(turned(depot, 6, [0, 0, 3, 3]).firsts, (1, 1, 2, 3))

    def test_the_first_weekday_reason(self):
        self.no_book(NoBook, ("weekday", 2, 1, 2), turned, Depot(3, 1, [1, 1, 2, 3]), 7, [2, 0, 4, 2])
        self.no_book(NoBook, ("weekday", 1, 2, 1), turned, Depot(3, 1, [1, 1, 2, 3]), 7, [2, 0, 4, 1])
        self.no_book(NoBook, ("weekday", 2, 0, 3), turned, Depot(3, 1, [1, 2, 2]), 4, [2, 1, 4])
        for depot in small_depots((2, 3), (1, 2), (2, 3)):
            for days, passes in itertools.product(range(4), itertools.product(range(4), repeat=depot.size)):
                reasons = [reason for reason in all_reasons(depot, days, passes) if reason[0] == "weekday"]
                if reasons:
                    self.no_book(NoBook, reasons[0], turned, depot, days, passes)
                else:
                    self.assertIs(type(turned(depot, days, passes)), Depot)

    def test_wrong_arguments(self):
        depot = Depot(3, 1, [1, 1, 2, 3])
        for days in (-1, FAR + 1):
            self.refused(OutOfRange, days, "days", turned, depot, days, [-1])
        for many in (0, 3, 5):
            self.refused(BadPasses, many, "length", turned, depot, 7, [-1] * many)
        self.refused(BadPasses, 1, "pass", turned, depot, 7, [0, -1, 0, -2])


if __name__ == "__main__":
    unittest.main()
