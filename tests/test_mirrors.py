"""Point 34: mirrored books and depots."""

import itertools
import unittest

from outagain.books import Book
from outagain.depots import Depot
from outagain.errors import BadBook, BadPasses, NoBook, OutOfRange
from outagain.judging import all_reasons, possible
from outagain.mirrors import mirrored, mirrored_depot
from outagain.walking import walk
from tests.counting import all_books, follow, joined
from tests.support import FAR, PromiseTest, alternating, new_dice, random_book, random_depot, small_depots


def mirrored_firsts(period, days, nexts):
    """The firsts of the mirrored depot, by the words of the document."""
    return tuple(1 if u == days + 1 else days + 2 + period - u for u in nexts)


class MirroredTest(PromiseTest):
    def mirrors(self, depot, book):
        """The mirrored depot and book fit together, and mirroring twice leads back."""
        answer = mirrored(depot, book)
        self.same(answer, (answer[0], answer[1]))
        other, back = answer
        self.assertEqual([type(part) for part in answer], [Depot, Book])
        after = walk(depot, book)
        self.same((other.period, other.quota), (depot.period, depot.quota))
        self.same(other.firsts, mirrored_firsts(depot.period, book.days, after.nexts))
        self.same(back.stretches, book.stretches[::-1])
        self.same(walk(other, back).passes, after.passes)
        self.assertEqual(mirrored(other, back), (depot, book))
        self.assertEqual(mirrored_depot(depot, book.days, after.passes), other)

    def test_all_books_of_small_depots_morning_by_morning(self):
        for depot in small_depots((1, 2, 3), (1, 2), (1, 2, 3)):
            for days in range(7 if depot.quota == 1 else 5):
                for rows in all_books(depot.period, depot.quota, depot.firsts, days):
                    passes, _, nexts, _, _ = follow(depot.period, depot.quota, depot.firsts, rows)
                    other, book = mirrored(depot, Book(joined(rows)))
                    self.assertEqual(other.firsts, mirrored_firsts(depot.period, days, nexts))
                    self.assertEqual(book.rows(), list(rows[::-1]))
                    self.assertEqual(follow(depot.period, depot.quota, other.firsts, rows[::-1])[0], passes)
                    self.mirrors(depot, Book(joined(rows)))

    def test_greater_depots(self):
        dice = new_dice(50)
        for _ in range(200):
            depot = random_depot(dice)
            self.mirrors(depot, random_book(dice, depot, dice.randint(0, 20), dice.choice([3, 30, FAR // 20])))

    def test_no_days_and_one_stretch(self):
        for depot in (Depot(3, 1, [1, 1, 2, 3]), Depot(8, 2, [1, 1, 8, 5, 2]), Depot(1, 2, [1, 1, 1])):
            self.mirrors(depot, Book([]))
            for days in (1, 2, depot.period, depot.period + 1, FAR):
                self.mirrors(depot, Book([(days, range(depot.quota))]))
        other, book = mirrored(depot=Depot(3, 1, [1, 1, 2, 3]), book=Book([]))
        self.same((other.firsts, book.stretches), ((1, 1, 3, 2), ()))

    def test_400_stretches(self):
        depot = Depot(1, 1, [1, 1, 1])
        self.mirrors(depot, Book(alternating(400, 3)))
        dice = new_dice(51)
        for _ in range(5):
            depot = Depot(4, 2, [1, 1, 1, 1, 2, 3, 4])
            book = random_book(dice, depot, 400, FAR // 400)
            self.mirrors(depot, book)

    def test_the_most_days(self):
        self.mirrors(Depot(3, 1, [1, 1, 2, 3]), Book([(FAR - 2, [1]), (1, [3]), (1, [0])]))

    def test_errors_are_those_of_walking(self):
        depot = Depot(3, 1, [1, 1, 2, 3])
        self.refused(BadBook, 1, "away", mirrored, depot, Book([(1, [1]), (1, [0]), (1, [9])]))
        self.refused(BadBook, 0, "driver", mirrored, depot, Book([(1, [4])]))
        self.refused(BadBook, 2, "count", mirrored, depot, Book([(1, [1]), (1, [2]), (1, [2, 3])]))


class MirroredDepotTest(PromiseTest):
    def test_ordinary(self):
        depot = Depot(3, 1, [1, 1, 2, 3])
        self.same(mirrored_depot(depot=depot, days=7, passes=(1, 2, 2, 2)).firsts, (1, 3, 2, 1))
        self.assertIs(type(mirrored_depot(depot, 7, [1, 2, 2, 2])), Depot)

    def test_possible_exactly_if_possible_for_the_mirrored_depot(self):
        for depot in small_depots((1, 2, 3), (1, 2), (1, 2, 3)):
            for days in range(6):
                for passes in itertools.product(range(days + 3), repeat=depot.size):
                    reasons = [reason for reason in all_reasons(depot, days, passes) if reason[0] == "weekday"]
                    if reasons:
                        self.no_book(NoBook, reasons[0], mirrored_depot, depot, days, list(passes))
                        continue
                    other = self.untouched(mirrored_depot, depot, days, list(passes))
                    self.assertEqual(possible(depot, days, passes), possible(other, days, passes))
                    self.assertEqual(mirrored_depot(other, days, passes), depot)

    def test_greater_depots(self):
        dice = new_dice(52)
        for _ in range(300):
            depot = random_depot(dice)
            days = dice.choice([dice.randint(0, 30), dice.randint(0, FAR), FAR])
            due = [c for c, room in enumerate(depot.due_places(days), 1) for _ in range(room)]
            dice.shuffle(due)
            passes = []
            for weekday, first in zip(due, depot.firsts):
                least = (weekday - first) % depot.period
                passes.append(least + depot.period * dice.choice([0, 0, dice.randint(0, days // depot.period)]))
            other = mirrored_depot(depot, days, passes)
            for first, mark in zip(other.firsts, [first + told for first, told in zip(depot.firsts, passes)]):
                self.assertEqual((days + 2 - mark - first) % depot.period, 0)
                self.assertTrue(1 <= first <= depot.period)
            self.assertEqual(possible(depot, days, passes), possible(other, days, passes))
            self.assertEqual(mirrored_depot(other, days, passes), depot)

    def test_other_conditions_do_not_matter(self):
        depot = Depot(3, 1, [1, 1, 2, 3])
        self.same(mirrored_depot(depot, 7, [4, 2, 2, 2]).firsts, (1, 3, 2, 1))
        self.same(mirrored_depot(depot, 7, [1, FAR * 3 + 2, 2, 2]).firsts, (1, 3, 2, 1))
        self.no_book(NoBook, ("weekday", 1, 2, 1), mirrored_depot, depot, 7, [2, 0, 4, 1])
        self.no_book(NoBook, ("weekday", 2, 1, 2), mirrored_depot, depot, 7, [2, 0, 4, 2])

    def test_order_of_the_checks(self):
        depot = Depot(3, 1, [1, 1, 2, 3])
        for days in (-1, FAR + 1):
            self.refused(OutOfRange, days, "days", mirrored_depot, depot, days, [-1])
        for many in (0, 3, 5):
            self.refused(BadPasses, many, "length", mirrored_depot, depot, 7, [-1] * many)
        self.refused(BadPasses, 1, "pass", mirrored_depot, depot, 7, [9, -1, 9, -2])


if __name__ == "__main__":
    unittest.main()
