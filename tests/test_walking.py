"""Points 6 and 9 and the walking of the interface."""

import itertools
import types
import unittest

from outagain.books import Book
from outagain.depots import Depot
from outagain.errors import BadBook
from outagain.walking import After, mornings, walk
from tests.counting import all_books, follow, joined, weekdays
from tests.support import FAR, PromiseTest, new_dice, random_book, random_depot, small_depots


class WalkTest(PromiseTest):
    """Checks of a walk."""

    def agrees(self, depot, rows):
        told = follow(depot.period, depot.quota, depot.firsts, rows)
        book = Book(joined(rows))
        if len(told) == 2:
            morning, code = told
            stretch = len(joined(rows[:morning])) - 1
            self.refused(BadBook, stretch, code, walk, depot, book)
            return False
        passes, longs, nexts, reports, _ = told
        after = walk(depot, book)
        self.assertIs(type(after), After)
        self.same((after.days, after.passes, after.longs, after.nexts), (len(rows), passes, longs, nexts))
        self.same(after.due(), weekdays(depot.period, nexts))
        self.same(list(mornings(depot, book)),
                  [(at + 1, reports[at], rows[at]) for at in range(len(rows))])
        self.stands(depot, after)
        return True

    def stands(self, depot, after):
        standing = after.standing()
        self.assertIs(type(standing), Depot)
        self.same((standing.period, standing.quota), (depot.period, depot.quota))
        self.same(standing.firsts, tuple(morning - after.days for morning in after.nexts))
        self.counts(depot, after)

    def counts(self, depot, after):
        for driver in range(depot.size):
            self.assertEqual(after.nexts[driver], depot.firsts[driver] + after.passes[driver]
                             + depot.period * after.longs[driver])
        self.assertEqual(sum(after.passes), depot.quota * after.days)
        self.assertTrue(all(after.days < morning <= after.days + depot.period for morning in after.nexts))
        due = tuple(after.due().count(c) for c in range(1, depot.period + 1))
        self.assertEqual(due, depot.due_places(after.days))
        self.assertEqual(sum(after.longs), depot.begun(after.days))


class ByFollowingTest(WalkTest):
    """Walking compared with following every driver morning by morning."""

    def test_all_books(self):
        many = 0
        for depot in small_depots((1, 2, 3), (1, 2), (1, 2, 3, 4)):
            for days in range(6):
                for rows in all_books(depot.period, depot.quota, depot.firsts, days):
                    self.assertTrue(self.agrees(depot, rows))
                    many += 1
        self.assertGreater(many, 20000)

    def test_any_rows(self):
        rows = [()] + [(a,) for a in range(4)] + list(itertools.combinations(range(4), 2))
        good = bad = 0
        for depot in small_depots((1, 2, 3), (1, 2), (3,)):
            for days in range(4):
                for told in itertools.product(rows, repeat=days):
                    if self.agrees(depot, told):
                        good += 1
                    else:
                        bad += 1
        self.assertTrue(good > 300 and bad > 30000)

    def test_greater_depots(self):
        dice = new_dice(9)
        for _ in range(150):
            depot = random_depot(dice)
            book = random_book(dice, depot, dice.randint(0, 12), 20)
            self.assertTrue(self.agrees(depot, tuple(book.rows())))
            if book.days:
                self.spoiled(dice, depot, book.rows())

    def spoiled(self, dice, depot, rows):
        at = dice.randrange(len(rows))
        rows[at] = tuple(sorted(dice.sample(range(12), dice.randint(max(0, depot.quota - 1), depot.quota))))
        self.agrees(depot, tuple(rows))


class FarTest(WalkTest):
    """Stretches that are far too long to be gone through."""

    def test_one_stretch(self):
        after = walk(Depot(3, 1, [1, 1, 2, 3]), Book([(FAR, [1])]))
        self.same((after.days, after.passes), (FAR, (0, FAR, 0, 0)))
        self.same(after.longs, ((FAR + 2) // 3, 0, (FAR + 1) // 3, FAR // 3))
        self.same(after.nexts, (FAR + 3, FAR + 1, FAR + 1, FAR + 2))
        self.same((after.due(), after.standing().firsts), ((1, 2, 2, 3), (3, 1, 1, 2)))

    def test_long_rounds_change_nothing_but_numbers(self):
        dice = new_dice(10)
        for _ in range(100):
            depot = random_depot(dice)
            book = random_book(dice, depot, dice.randint(1, 8), 20)
            at = dice.randrange(len(book.stretches))
            rounds = dice.randint(1, FAR // 16)
            self.lengthened(depot, book, at, rounds)

    def lengthened(self, depot, book, at, rounds):
        stretches = list(book.stretches)
        days, runners = stretches[at]
        stretches[at] = (days + rounds * depot.period, runners)
        short, after = walk(depot, book), walk(depot, Book(stretches))
        self.assertEqual(after.days, short.days + rounds * depot.period)
        for driver in range(depot.size):
            more, longs = (rounds * depot.period, 0) if driver in runners else (0, rounds)
            self.same(after.passes[driver], short.passes[driver] + more)
            self.same(after.longs[driver], short.longs[driver] + longs)
            self.same(after.nexts[driver], short.nexts[driver] + rounds * depot.period)
        self.stands(depot, after)

    def test_many_long_stretches(self):
        dice = new_dice(11)
        for _ in range(60):
            depot = random_depot(dice)
            book = random_book(dice, depot, 20, FAR // 20)
            self.stands(depot, walk(depot, book))
        depot = random_depot(dice)
        self.stands(depot, walk(depot, random_book(dice, depot, 400, FAR // 400)))


class StandingTest(PromiseTest):
    def test_no_days(self):
        depot = Depot(3, 2, [1, 3, 1, 2, 1])
        after = walk(depot, Book([]))
        self.same((after.days, after.passes, after.longs), (0, (0,) * 5, (0,) * 5))
        self.same((after.nexts, after.due()), (depot.firsts, depot.firsts))
        self.assertTrue(after.standing() == depot)

    def test_drivers_that_have_not_begun(self):
        after = walk(Depot(8, 1, [1, 8]), Book([(3, [0])]))
        self.same((after.passes, after.longs, after.nexts), ((3, 0), (0, 0), (4, 8)))
        self.same((after.due(), after.standing().firsts), ((4, 8), (1, 5)))

    def test_parts_walked_one_behind_another(self):
        dice = new_dice(12)
        for _ in range(100):
            depot = random_depot(dice)
            book = random_book(dice, depot, dice.randint(1, 10), FAR // 10)
            days = dice.randint(0, book.days)
            front = walk(depot, book.head(days))
            rest = walk(front.standing(), book.tail(days))
            whole = walk(depot, book)
            self.same(whole.passes, tuple(a + b for a, b in zip(front.passes, rest.passes)))
            self.same(whole.longs, tuple(a + b for a, b in zip(front.longs, rest.longs)))
            self.same(whole.nexts, tuple(days + morning for morning in rest.nexts))
            self.assertTrue(whole.standing() == rest.standing())

    def test_after_is_told_anew(self):
        after = walk(Depot(3, 1, [1, 2]), Book([(1, [0])]))
        self.assertTrue(after.standing() == after.standing())
        self.same((after.due(), after.due()), ((2, 2), (2, 2)))


class RefusedTest(PromiseTest):
    depot = Depot(3, 2, [1, 1, 1, 2, 3])

    def misfit(self, at, code, *stretches):
        self.refused(BadBook, at, code, walk, self.depot, Book(stretches))

    def test_driver(self):
        self.misfit(0, "driver", (1, [0, 5]))
        self.misfit(1, "driver", (1, [0, 1]), (1, [0, 11]), (1, [7]))

    def test_count(self):
        self.misfit(0, "count", (1, [0]))
        self.misfit(0, "count", (1, []))
        self.misfit(1, "count", (FAR // 2, [0, 1]), (1, [0, 1, 3]), (1, [6, 7]))

    def test_away(self):
        self.misfit(0, "away", (1, [0, 3]))
        self.misfit(1, "away", (1, [0, 1]), (1, [0, 2]))
        self.misfit(2, "away", (1, [0, 1]), (1, [0, 3]), (1, [1, 4]), (1, [9, 10]))

    def test_away_only_on_the_first_morning_counts(self):
        self.assertEqual(walk(self.depot, Book([(9, [0, 1]), (1, [1, 2])])).passes, (9, 10, 1, 0, 0))
        self.misfit(1, "away", (8, [0, 1]), (1, [1, 2]))
        self.misfit(1, "away", (10, [0, 1]), (1, [1, 2]))

    def test_several_things_wrong_at_once(self):
        self.misfit(0, "driver", (1, [3, 5, 6]))
        self.misfit(0, "driver", (1, [5]))
        self.misfit(0, "count", (1, [3]))
        self.misfit(0, "count", (1, [0, 3, 4]))
        self.misfit(1, "count", (1, [0, 1]), (1, [2]), (1, [5, 6]))

    def test_index_behind_joining(self):
        self.misfit(1, "away", (1, [0, 1]), (1, [0, 1]), (1, [0, 1]), (1, [2, 3]))

    def test_index_400(self):
        stretches = [(3, [0, 1]), (3, [0, 2])] * 199 + [(3, [0, 1]), (3, [0, 5])]
        self.misfit(399, "driver", *stretches)

    def test_arguments_by_name(self):
        self.assertEqual(walk(depot=self.depot, book=Book([])).days, 0)
        self.assertEqual(list(mornings(depot=self.depot, book=Book([]))), [])


class MorningsTest(PromiseTest):
    def test_generator(self):
        told = mornings(Depot(2, 1, [1, 2, 2]), Book([(2, [0]), (1, [0])]))
        self.assertIsInstance(told, types.GeneratorType)
        self.same(next(told), (1, (0,), (0,)))
        self.same(list(told), [(2, (0, 1, 2), (0,)), (3, (0,), (0,))])

    def test_400_days(self):
        depot = Depot(7, 1, [1, 1, 3])
        told = list(mornings(depot, Book([(400, [1])])))
        self.same(len(told), 400)
        self.same(told[399], (400, (0, 1) if 399 % 7 == 0 else (1,), (1,)))
        self.same(told[7], (8, (0, 1), (1,)))
        self.same(told[9], (10, (1, 2), (1,)))


if __name__ == "__main__":
    unittest.main()
