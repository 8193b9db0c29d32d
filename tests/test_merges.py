"""Points 35 and 36: merged, parted and renamed depots and books."""

import itertools
import unittest

from outagain.books import Book
from outagain.depots import Depot
from outagain.errors import BadBook, BadDepot, BadWish, NoBook
from outagain.merges import merged, merged_book, parted, renamed, renamed_book
from outagain.walking import walk
from tests.counting import all_books, follow, joined
from tests.support import FAR, PromiseTest, alternating, new_dice, random_book, small_depots


def depots_to_merge(dice, many, period):
    """So many depots of this period with at most 12 drivers together."""
    found = []
    left = 12
    for at in range(many):
        size = dice.randint(1, left - (many - at - 1))
        quota = dice.randint(1, size)
        firsts = [1] * quota + [dice.randint(1, period) for _ in range(size - quota)]
        dice.shuffle(firsts)
        found.append(Depot(period, quota, firsts))
        left -= size
    return found


def book_of_days(dice, depot, stretches, days):
    """A random book of the depot with just so many days."""
    book = random_book(dice, depot, stretches, max(1, days // stretches))
    if book.days < days:
        reporting = [driver for driver, first in enumerate(walk(depot, book).standing().firsts) if first == 1]
        book += Book([(days - book.days, reporting[:depot.quota])])
    return book.head(days)


class MergedTest(PromiseTest):
    def test_places_firsts_and_quota(self):
        dice = new_dice(60)
        for _ in range(200):
            depots = depots_to_merge(dice, dice.randint(1, 5), dice.randint(1, 8))
            whole = merged(*depots)
            self.assertIs(type(whole), Depot)
            self.same(whole.period, depots[0].period)
            self.same(whole.quota, sum(depot.quota for depot in depots))
            self.same(whole.firsts, tuple(first for depot in depots for first in depot.firsts))
            self.same(whole.places, tuple(sum(column) for column in zip(*[depot.places for depot in depots])))

    def test_one_and_two(self):
        one, two = Depot(2, 1, [1, 1, 2]), Depot(2, 1, [1, 2])
        self.assertEqual(merged(one), one)
        self.same(merged(one, two).firsts, (1, 1, 2, 1, 2))
        self.same(merged(two, one).firsts, (1, 2, 1, 1, 2))
        self.assertEqual(merged(*[Depot(1, 1, [1])] * 12), Depot(1, 12, [1] * 12))

    def test_none(self):
        self.refused(BadDepot, 0, "none", merged)

    def test_periods(self):
        depots = [Depot(period, 1, [1, 1]) for period in (2, 2, 3, 2, 4)]
        self.refused(BadDepot, 2, "period", merged, *depots)
        self.refused(BadDepot, 1, "period", merged, depots[2], *depots)
        self.refused(BadDepot, 8, "period", merged, *[Depot(2, 2, [1, 1])] * 8, depots[2])

    def test_errors_of_the_merged_depot(self):
        self.refused(BadDepot, 13, "drivers", merged, Depot(2, 1, [1] * 6), Depot(2, 1, [1] * 7))
        self.refused(BadDepot, 36, "drivers", merged, *[Depot(2, 1, [1] * 12)] * 3)
        self.refused(BadDepot, 13, "quota", merged, Depot(2, 6, [1] * 6), Depot(2, 7, [1] * 7))
        self.refused(BadDepot, 24, "quota", merged, Depot(2, 12, [1] * 12), Depot(2, 12, [1] * 12))


class MergedBookTest(PromiseTest):
    def goes_as_before(self, depots, books):
        """Everybody goes in the merged book as in the books, and parting it gives the books back."""
        whole, book = merged(*depots), merged_book(depots, books)
        self.assertIs(type(book), Book)
        after, afters = walk(whole, book), [walk(depot, own) for depot, own in zip(depots, books)]
        self.same(after.days, books[0].days)
        for name in ("passes", "longs", "nexts"):
            self.same(getattr(after, name), tuple(n for own in afters for n in getattr(own, name)))
        begins = [sum(depot.size for depot in depots[:at]) for at in range(len(depots))]
        for morning in {min(1, book.days), book.days, book.days // 2, book.days // 3} - {0}:
            expected = [begin + driver for begin, own in zip(begins, books) for driver in own.runners_on(morning)]
            self.same(book.runners_on(morning), tuple(expected))
        back = parted(depots, book)
        self.assertIs(type(back), list)
        self.assertEqual(back, books)
        return book

    def test_all_pairs_of_small_books_morning_by_morning(self):
        one, two = Depot(2, 1, [1, 1, 2]), Depot(2, 1, [1, 2])
        for days in range(5):
            for rows, others in itertools.product(all_books(2, 1, one.firsts, days), all_books(2, 1, two.firsts, days)):
                book = merged_book([one, two], [Book(joined(rows)), Book(joined(others))])
                expected = [(*row, *[driver + 3 for driver in other]) for row, other in zip(rows, others)]
                self.assertEqual(book.rows(), expected)
                passes = follow(2, 2, (1, 1, 2, 1, 2), expected)[0]
                self.assertEqual(passes, follow(2, 1, (1, 1, 2), rows)[0] + follow(2, 1, (1, 2), others)[0])
                self.goes_as_before([one, two], [Book(joined(rows)), Book(joined(others))])

    def test_drawn_books(self):
        dice = new_dice(61)
        for _ in range(150):
            depots = depots_to_merge(dice, dice.randint(1, 4), dice.randint(1, 8))
            days = dice.choice([0, 1, 7, 50, 10 ** 9, FAR])
            books = [book_of_days(dice, depot, dice.randint(1, 20), days) for depot in depots]
            self.assertEqual({book.days for book in books}, {days})
            self.goes_as_before(depots, books)

    def test_kinds_of_arguments(self):
        one, two = Depot(2, 1, [1, 1, 2]), Depot(2, 1, [1, 2])
        books = (Book([(2, [0])]), Book([(1, [0]), (1, [1])]))
        expected = ((1, (0, 3)), (1, (0, 4)))
        self.same(merged_book((one, two), books).stretches, expected)
        self.same(self.untouched(merged_book, [one, two], list(books)).stretches, expected)
        self.same(merged_book(depots=[one, two], books=books).stretches, expected)
        self.same([book.stretches for book in parted(depots=(one, two), book=Book(expected))],
                  [((2, (0,)),), ((1, (0,)), (1, (1,)))])

    def test_no_days(self):
        one, two = Depot(2, 1, [1, 1, 2]), Depot(2, 1, [1, 2])
        self.assertEqual(self.goes_as_before([one, two, one], [Book([])] * 3), Book([]))

    def test_400_and_401_stretches(self):
        one, two = Depot(1, 1, [1, 1]), Depot(1, 1, [1, 1, 1])
        steady = Book([(1200, [2])])
        book = self.goes_as_before([one, two], [Book(alternating(400, 3)), steady])
        self.assertEqual(len(book.stretches), 400)
        self.assertEqual(len(self.goes_as_before([one, two], [Book(alternating(400, 3))] * 2).stretches), 400)
        # The runners change on 199 mornings of the first book, and on 200 or 201 others of the second one.
        first, rear = Book(alternating(200, 4)), alternating(200, 4)[1:] + [(2, [0])]
        book = self.goes_as_before([one, two], [first, Book([(2, [0])] + rear)])
        self.assertEqual(len(book.stretches), 400)
        self.refused(BadBook, 400, "stretches", merged_book, [one, two], [first, Book([(1, [2]), (1, [0])] + rear)])
        self.refused(BadBook, 400, "stretches", merged_book, [one, two],
                     [Book(alternating(400, 3)), Book([(1, [2]), (1199, [0])])])

    def test_errors_in_their_order(self):
        one, two = Depot(2, 1, [1, 1, 2]), Depot(2, 1, [1, 2])
        good, short = Book([(2, [0])]), Book([(1, [0])])
        bad = Book([(1, [0]), (1, [2, 3]), (1, [9])])
        self.refused(BadDepot, 0, "none", merged_book, [], [])
        self.refused(BadDepot, 0, "none", merged_book, [], [bad])
        self.refused(BadDepot, 1, "period", merged_book, [one, Depot(3, 1, [1])], [bad])
        self.refused(BadDepot, 15, "drivers", merged_book, [one] * 5, [bad])
        self.refused(BadDepot, 14, "quota", merged_book, [Depot(2, 7, [1] * 7)] * 2, [bad])
        for many in (0, 1, 3):
            self.refused(BadBook, many, "length", merged_book, [one, two], [bad] * many)
        self.refused(BadBook, 1, "driver", merged_book, [one, two], [short, bad.head(2)])
        self.refused(BadBook, 1, "count", merged_book, [one, Depot(2, 1, [1, 2, 2, 2])], [short, bad])
        self.refused(BadBook, 1, "away", merged_book, [one, two], [Book([(1, [1]), (1, [0])]), bad])
        self.refused(BadBook, 0, "driver", merged_book, [one, two], [good, Book([(1, [2])])])
        self.refused(BadBook, 1, "days", merged_book, [one, two], [good, short])
        self.refused(BadBook, 1, "days", merged_book, [one, two], [short, good])
        self.refused(BadBook, 2, "days", merged_book, [one, two, one, two], [good, good, short, Book([])])
        alone = Depot(1, 1, [1, 1, 1])
        books = [Book(alternating(400)), Book([(1, [2])] + alternating(399)), Book([(399, [0])])]
        self.refused(BadBook, 2, "days", merged_book, [alone] * 3, books)
        self.refused(BadBook, 0, "away", merged_book, [one, two], [good, Book([(1, [1])])])


class PartedTest(PromiseTest):
    one, two = Depot(2, 1, [1, 1, 2]), Depot(2, 1, [1, 1])

    def test_all_books_of_a_merged_depot(self):
        whole = merged(self.one, self.two)
        words = set()
        for days in range(4):
            for rows in all_books(2, 2, whole.firsts, days):
                book = Book(joined(rows))
                mixed = [(t, i) for t, (_, runners) in enumerate(book.stretches)
                         for i, part in enumerate(({0, 1, 2}, {3, 4})) if len(part & set(runners)) != 1]
                words.add(bool(mixed))
                if mixed:
                    self.no_book(NoBook, ("mixed", *mixed[0]), parted, [self.one, self.two], book)
                    continue
                books = parted([self.one, self.two], book)
                self.assertEqual(books, [Book.of_rows([[d for d in row if d < 3] for row in rows]),
                                         Book.of_rows([[d - 3 for d in row if d >= 3] for row in rows])])
                self.assertEqual(merged_book([self.one, self.two], books), book)
        self.assertEqual(words, {True, False})

    def test_neighbours_are_joined(self):
        books = parted([self.one, self.two], Book([(1, [0, 3]), (1, [0, 3]), (FAR - 2, [0, 3])]))
        self.assertEqual(books, [Book([(FAR, [0])]), Book([(FAR, [0])])])
        books = parted([Depot(1, 1, [1]), Depot(1, 1, [1, 1])], Book([(5, [0, 1]), (2, [0, 2])]))
        self.same([book.stretches for book in books], [((7, (0,)),), ((5, (0,)), (2, (1,)))])

    def test_the_first_mixed_stretch_and_depot(self):
        trio = [Depot(2, 1, [1, 1]), Depot(2, 1, [1, 1]), Depot(2, 1, [1, 1])]
        self.no_book(NoBook, ("mixed", 1, 0), parted, trio, Book([(2, [0, 2, 4]), (2, [2, 3, 4])]))
        self.no_book(NoBook, ("mixed", 0, 1), parted, trio, Book([(2, [0, 4, 5]), (2, [2, 3, 4])]))
        self.no_book(NoBook, ("mixed", 0, 0), parted, trio, Book([(2, [0, 1, 4])]))

    def test_walking_ahead_of_mixed_and_depots_ahead_of_both(self):
        mixed_and_bad = Book([(2, [0, 1]), (1, [2, 4])])
        self.refused(BadBook, 1, "away", parted, [self.one, self.two], mixed_and_bad)
        self.refused(BadBook, 1, "driver", parted, [self.one, self.two], Book([(2, [0, 1]), (1, [0, 5])]))
        self.refused(BadBook, 0, "count", parted, [self.one, self.two], Book([(2, [0]), (1, [0, 5])]))
        self.refused(BadDepot, 0, "none", parted, [], mixed_and_bad)
        self.refused(BadDepot, 1, "period", parted, [self.one, Depot(3, 1, [1])], mixed_and_bad)
        self.refused(BadDepot, 15, "drivers", parted, [self.one] * 5, mixed_and_bad)
        self.refused(BadDepot, 14, "quota", parted, [Depot(2, 7, [1] * 7)] * 2, mixed_and_bad)

    def test_one_depot(self):
        book = Book([(2, [0]), (1, [1])])
        self.assertEqual(parted([self.one], book), [book])


class RenamedTest(PromiseTest):
    def test_every_order_of_small_depots(self):
        for depot in small_depots((1, 2, 3), (1, 2), (1, 2, 3)):
            for order in itertools.permutations(range(depot.size)):
                other = self.untouched(renamed, depot, list(order))
                self.assertEqual(other, Depot(depot.period, depot.quota, [depot.firsts[d] for d in order]))
                self.assertEqual(renamed(depot, order), other)

    def test_books_of_the_depot_and_others(self):
        depot = Depot(2, 1, [1, 1, 2])
        for order in itertools.permutations(range(3)):
            for rows in itertools.product([(0,), (1,), (2,), (0, 2)], repeat=3):
                book = self.untouched(renamed_book, depot, Book(joined(rows)), list(order))
                self.assertIs(type(book), Book)
                expected = [tuple(sorted(order.index(driver) for driver in row)) for row in rows]
                self.assertEqual(book.rows(), expected)
                before = follow(2, 1, depot.firsts, rows)
                after = follow(2, 1, renamed(depot, order).firsts, expected)
                self.assertEqual(len(before), len(after))
                if len(before) == 5:
                    self.assertEqual(after[0], tuple(before[0][driver] for driver in order))
                else:
                    self.assertEqual(after, before)

    def test_greater_depots(self):
        dice = new_dice(62)
        for _ in range(100):
            depot, = depots_to_merge(dice, 1, dice.randint(1, 8))
            order = dice.sample(range(depot.size), depot.size)
            book = random_book(dice, depot, dice.choice([0, 5, 400]), dice.choice([3, FAR // 400]))
            other = renamed_book(depot, book, order)
            self.assertEqual(len(other.stretches), len(book.stretches))
            after, before = walk(renamed(depot, order), other), walk(depot, book)
            self.same(after.passes, tuple(before.passes[driver] for driver in order))
            self.same(after.nexts, tuple(before.nexts[driver] for driver in order))
            back = [order.index(driver) for driver in range(depot.size)]
            self.assertEqual(renamed(renamed(depot, order), back), depot)
            self.assertEqual(renamed_book(renamed(depot, order), other, back), book)

    def test_by_names(self):
        depot = Depot(2, 1, [1, 1, 2])
        self.same(renamed(depot=depot, order=(2, 0, 1)).firsts, (2, 1, 1))
        book = renamed_book(depot=depot, book=Book([(2, [0]), (1, []), (3, [1, 2])]), order=(2, 0, 1))
        self.same(book.stretches, ((2, (1,)), (1, ()), (3, (0, 2))))

    def test_wrong_orders(self):
        depot = Depot(2, 1, [1, 1, 2])
        book = Book([(1, [0])])
        for call, args in ((renamed, (depot,)), (renamed_book, (depot, book))):
            for many in (0, 2, 4):
                self.refused(BadWish, many, "length", call, *args, [9] * many)
            for order, at in (([-1, 0, 1], 0), ([0, 3, 1], 1), ([0, 0, 9], 1), ([2, 1, 2], 2), ((1, 0, -1), 2),
                              ([0, -2, 1], 1), ([3, 3, 3], 0), ([1, 1, 1], 1)):
                self.refused(BadWish, at, "order", call, *args, order)

    def test_drivers_of_others_ahead_of_the_order(self):
        depot = Depot(2, 1, [1, 1, 2])
        book = Book([(1, [0]), (1, [0, 1, 2]), (1, [2, 3]), (1, [11])])
        for order in ([0, 1, 2], [0], [0, 0, 0], [-1, 5, 5]):
            self.refused(BadBook, 2, "driver", renamed_book, depot, book, order)
        self.refused(BadBook, 0, "driver", renamed_book, depot, Book([(1, [3])]), [])


if __name__ == "__main__":
    unittest.main()
