"""Point 45: lists told back from a book."""

import itertools
import unittest

from outagain.books import Book
from outagain.depots import Depot
from outagain.errors import BadBook, OutOfRange
from outagain.toldback import lists_of_book
from outagain.walking import walk
from outagain.weeklists import lead
from tests.counting import all_books, follow, joined
from tests.leading import all_lists, drawn_lists, drawn_small_depot, led
from tests.support import FAR, PromiseTest, alternating, new_dice, random_book, small_depots

DEPOT = Depot(3, 1, [1, 1, 2, 3])


def preferences(depot, rows):
    """For each weekday the pairs of drivers, the first of whom is preferred to the second one, by all mornings."""
    _, _, _, reports, _ = follow(depot.period, depot.quota, depot.firsts, rows)
    found = {c: set() for c in range(1, depot.period + 1)}
    for at, (reporting, runners) in enumerate(zip(reports, rows)):
        for one, other in itertools.product(runners, set(reporting) - set(runners)):
            found[at % depot.period + 1].add((one, other))
    return found


def has_ring(size, pairs):
    """True if some drivers form a ring, by following the pairs as far as they lead."""
    reached = set(pairs)
    for _ in range(size):
        reached |= {(one, far) for one, other in reached for near, far in pairs if other == near}
    return any(one == other for one, other in reached)


def shortened(depot, book):
    """The book with stretches of few rounds in place of long ones, so that all weekdays stay as they are."""
    most = 3 * depot.period
    return Book([(days if days <= most else days % depot.period + 2 * depot.period, runners)
                 for days, runners in book.stretches])


class ListsOfBookTest(PromiseTest):
    def told(self, depot, book):
        """The told lists lead the book, or there is the told ring and none on lesser weekdays."""
        answer = lists_of_book(depot, book)
        near = shortened(depot, book)
        prefers = preferences(depot, [runners for days, runners in near.stretches for _ in range(days)])
        rings = [c for c in sorted(prefers) if has_ring(depot.size, prefers[c])]
        if answer[0] == "lists":
            self.same(answer, ("lists", [tuple(int(driver) for driver in row) for row in answer[1]]))
            self.assertEqual([sorted(row) for row in answer[1]], [list(range(depot.size))] * depot.period)
            self.assertEqual(rings, [])
            going, behind = led(depot, answer[1], near.days)
            self.assertEqual(going, [runners for days, runners in near.stretches for _ in range(days)])
            self.assertEqual(behind[-1][0], walk(depot, near).passes)
        else:
            word, weekday, drivers = answer
            self.same(answer, ("ring", int(weekday), tuple(int(driver) for driver in drivers)))
            self.assertEqual(weekday, rings[0])
            self.assertTrue(len(drivers) == len(set(drivers)) >= 2)
            for one, other in zip(drivers, drivers[1:] + drivers[:1]):
                self.assertIn((one, other), prefers[weekday])
        return answer

    def test_all_books_of_small_depots_and_all_lists(self):
        words = set()
        for depot in small_depots((1, 2), (1, 2), (1, 2, 3)):
            for days in range(6 if depot.quota == 1 else 4):
                led_ones = {tuple(lead(depot, rows, days).rows()) for rows in all_lists(depot)}
                for rows in all_books(depot.period, depot.quota, depot.firsts, days):
                    answer = self.told(depot, Book(joined(rows)))
                    self.assertEqual(answer[0] == "lists", rows in led_ones, (depot.firsts, rows))
                    words.add(answer[0])
        self.assertEqual(words, {"lists", "ring"})

    def test_led_books(self):
        dice = new_dice(110)
        for _ in range(200):
            depot = drawn_small_depot(dice)
            book = lead(depot, drawn_lists(dice, depot), dice.choice([0, 1, 5, 30, 400]))
            answer = self.told(depot, book)
            self.assertEqual(answer[0], "lists")
            self.assertEqual(lead(depot, answer[1], book.days), book)

    def test_drawn_books(self):
        dice = new_dice(111)
        found = {}
        for _ in range(500):
            depot = drawn_small_depot(dice)
            book = random_book(dice, depot, dice.randint(1, 14), dice.choice([2, 20, FAR // 14]))
            answer = self.told(depot, book)
            kind = (answer[0], 0 if answer[0] == "lists" else len(answer[2]), book.days > 10 ** 9)
            found[kind] = found.get(kind, 0) + 1
        for kind in (("lists", 0), ("ring", 2), ("ring", 3)):
            self.assertTrue(found.get((*kind, True)) and found.get((*kind, False)), found)

    def test_far_books(self):
        dice = new_dice(112)
        depot = Depot(1, 1, [1, 1])
        word, weekday, drivers = self.told(depot, Book(alternating(400, FAR // 400)))
        self.same((word, weekday, sorted(drivers)), ("ring", 1, [0, 1]))
        for _ in range(6):
            depot = drawn_small_depot(dice)
            self.told(depot, random_book(dice, depot, 400, FAR // 400))
        for runner, row in ((0, (0, 1, 2, 3)), (1, (1, 0, 2, 3))):
            answer = self.told(DEPOT, Book([(FAR, [runner])]))
            self.assertEqual(answer[0], "lists")
            self.assertLess(answer[1][0].index(runner), answer[1][0].index(1 - runner))

    def test_long_runs_that_begin_at_the_ends_of_stretches(self):
        depot = Depot(3, 1, [1, 2])
        self.assertEqual(self.told(depot, Book([(1, [0]), (FAR - 1, [0])]))[0], "lists")
        self.assertEqual(self.told(depot, Book([(1, [0]), (1, [1]), (1, [1])]))[0], "lists")
        # On weekday 2 driver 1 is preferred first, and driver 0 when both come again three mornings later.
        answer = self.told(depot, Book([(1, [0]), (3, [1]), (1, [0])]))
        self.same((answer[0], answer[1], sorted(answer[2])), ("ring", 2, [0, 1]))
        self.assertEqual(self.told(depot, Book([(1, [0]), (3, [1])]))[0], "lists")

    def test_no_days(self):
        for depot in (DEPOT, Depot(6, 1, [1] * 6), Depot(1, 1, [1])):
            word, rows = self.told(depot, Book([]))
            self.same((word, len(rows)), ("lists", depot.period))
        self.assertEqual(lists_of_book(depot=DEPOT, book=Book([(1, [0])]))[0], "lists")

    def test_rings_of_three(self):
        depot = Depot(1, 1, [1, 1, 1])
        answer = self.told(depot, Book([(1, [0])]))
        self.assertEqual(answer[0], "lists")
        depot = Depot(2, 1, [1, 1, 2, 2])
        dice = new_dice(113)
        lengths = {len(self.told(depot, random_book(dice, depot, 6, 2))[-1]) for _ in range(60)}
        self.assertTrue({2, 3} & lengths)

    def test_limits_ahead_of_walking(self):
        bad = Book([(1, [11])])
        for size, period in ((7, 3), (12, 6), (7, 7)):
            self.refused(OutOfRange, size, "drivers", lists_of_book, Depot(period, 1, [1] * size), bad)
        for period in (7, 8):
            self.refused(OutOfRange, period, "period", lists_of_book, Depot(period, 1, [1] * 6), bad)
        self.refused(BadBook, 0, "driver", lists_of_book, Depot(6, 1, [1] * 6), bad)
        self.refused(BadBook, 1, "count", lists_of_book, DEPOT, Book([(1, [0]), (1, [1, 2])]))
        self.refused(BadBook, 2, "away", lists_of_book, DEPOT, Book([(1, [0]), (1, [2]), (1, [1])]))

    def test_what_is_returned_may_be_changed(self):
        book = Book([(2, [0])])
        before = lists_of_book(DEPOT, book)
        lists_of_book(DEPOT, book)[1].clear()
        self.same(lists_of_book(DEPOT, book), before)


if __name__ == "__main__":
    unittest.main()
