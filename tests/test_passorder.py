"""Point 26: the order of the possible rows."""

import bisect
import itertools
import unittest

from outagain.depots import Depot
from outagain.errors import BadPasses, OutOfRange
from outagain.halfknown import complete
from outagain.judging import possible
from outagain.passorder import first_row, last_row, next_row, previous_row
from outagain.walking import walk
from tests.counting import worlds
from tests.support import FAR, PromiseTest, new_dice, random_book, random_depot, small_depots


def sorted_rows(depot, most_days):
    """For each number of days from 0 on, the sorted list of the possible rows."""
    return [sorted({passes for _, passes in found})
            for found in worlds(depot.period, depot.quota, depot.firsts, most_days)]


class OrderTest(PromiseTest):
    def compared(self, depot, days, rows, passes):
        """The neighbours of any row in the sorted list."""
        behind = bisect.bisect_right(rows, tuple(passes))
        ahead = bisect.bisect_left(rows, tuple(passes))
        self.same(self.untouched(next_row, depot, days, passes), list(rows[behind]) if behind < len(rows) else None)
        self.same(self.untouched(previous_row, depot, days, passes), list(rows[ahead - 1]) if ahead > 0 else None)

    def test_all_rows_of_small_depots(self):
        for depot in small_depots((1, 2, 3), (1, 2), (1, 2, 3)):
            for days, rows in enumerate(sorted_rows(depot, 7)):
                self.same(first_row(depot, days), list(rows[0]))
                self.same(last_row(depot, days), list(rows[-1]))
                for passes in rows:
                    self.compared(depot, days, rows, passes)

    def test_from_rows_that_are_not_possible(self):
        for depot in small_depots((1, 2, 3), (1, 2), (1, 2)):
            for days, rows in enumerate(sorted_rows(depot, 4)):
                for passes in itertools.product([*range(2 * days + 2), FAR], repeat=depot.size):
                    self.compared(depot, days, rows, list(passes))
        dice = new_dice(1)
        for depot in small_depots((2, 4), (1, 2), (4,)):
            for days, rows in enumerate(sorted_rows(depot, 8)):
                self.compared(depot, days, rows, [dice.randint(0, days + 1) for _ in range(4)])
                row = list(dice.choice(rows))
                row[dice.randrange(4)] = dice.randint(0, days)
                self.compared(depot, days, rows, row)

    def test_through_all_rows(self):
        for depot in (Depot(3, 1, [1, 1, 2, 3]), Depot(4, 2, [1, 1, 4, 2, 2]), Depot(1, 2, [1, 1, 1, 1, 1])):
            days = 9 if depot.period == 3 else 6
            rows = sorted_rows(depot, days)[days]
            self.assertGreater(len(rows), 50)
            row = first_row(depot, days)
            for expected in rows:
                self.same(row, list(expected))
                row = next_row(depot, days, row)
            self.assertIsNone(row)

    def test_far_days(self):
        dice = new_dice(2)
        for _ in range(15):
            depot = random_depot(dice)
            book = random_book(dice, depot, 8, FAR // 8)
            passes = list(walk(depot, book).passes)
            self.between(depot, book.days, passes)
            one, other = dice.randrange(depot.size), dice.randrange(depot.size)
            part = dice.randint(0, passes[one])
            passes[one] -= part
            passes[other] += part
            self.between(depot, book.days, passes)

    def between(self, depot, days, passes):
        """First, previous, next and last row stand around a row in this order, and lead back to one another."""
        first, last = first_row(depot, days), last_row(depot, days)
        before, behind = previous_row(depot, days, passes), next_row(depot, days, passes)
        rows = [row for row in (first, before, behind, last) if row is not None]
        self.assertEqual(rows, sorted(rows))
        self.assertTrue(all(possible(depot, days, row) for row in rows))
        self.assertTrue(before is None or before < passes)
        self.assertTrue(behind is None or behind > passes)
        middle = passes if possible(depot, days, passes) else None
        if before is not None:
            self.assertEqual(next_row(depot, days, before), middle or behind)
            self.last_pass_follows(depot, days, behind)
        if behind is not None:
            self.assertEqual(previous_row(depot, days, behind), middle or before)
        self.assertIsNone(previous_row(depot, days, first))
        self.assertIsNone(next_row(depot, days, last))

    def last_pass_follows(self, depot, days, row):
        """The row is the only one with its passes of all drivers but the last one."""
        if row is not None:
            told = row[:-1] + [None]
            self.assertEqual(complete(depot, days, told), ("passes", row))

    def test_ends(self):
        depot = Depot(3, 1, [1, 1, 2, 3])
        self.same(first_row(depot, FAR), [0, 1, 1, FAR - 2])
        self.same(last_row(depot, FAR), [FAR, 0, 0, 0])
        self.same(next_row(depot, FAR, [FAR, 0, 0, 0]), None)
        self.same(previous_row(depot, FAR, [FAR, 0, 0, 0]), [FAR - 1, 1, 0, 0])
        self.same(previous_row(depot, FAR, [0, 1, 1, FAR - 2]), None)
        self.same(next_row(depot, FAR, [0, 0, 0, 0]), [0, 1, 1, FAR - 2])
        self.same(previous_row(depot, FAR, [FAR + 1, 0, 0, 0]), [FAR, 0, 0, 0])
        self.same(previous_row(depot, FAR, [FAR * FAR] * 4), [FAR, 0, 0, 0])

    def test_one_possible_row(self):
        depot = Depot(8, 1, [1])
        for days in (0, 1, 9, FAR):
            self.same((first_row(depot, days), last_row(depot, days)), ([days], [days]))
            self.same(next_row(depot, days, [days]), None)
            self.same(previous_row(depot, days, [days]), None)
            self.same(next_row(depot, days, [max(0, days - 1)]), [days] if days > 0 else None)
            self.same(previous_row(depot, days, (days + 1,)), [days])
        depot = Depot(3, 1, [1, 1, 2, 3])
        self.same(next_row(depot, 0, [0, 0, 0, 0]), None)
        self.same(previous_row(depot, 0, [0, 0, 0, 1]), [0, 0, 0, 0])

    def test_by_names(self):
        depot = Depot(3, 1, [1, 1, 2, 3])
        self.same(first_row(depot=depot, days=7), [0, 1, 1, 5])
        self.same(last_row(depot=depot, days=7), [7, 0, 0, 0])
        self.same(next_row(depot=depot, days=7, passes=(1, 2, 2, 2)), [1, 2, 3, 1])
        self.same(previous_row(depot=depot, days=7, passes=(1, 2, 2, 2)), [1, 2, 0, 4])

    def test_wrong_arguments(self):
        depot = Depot(3, 1, [1, 1, 2, 3])
        for days in (-1, FAR + 1):
            self.refused(OutOfRange, days, "days", first_row, depot, days)
            self.refused(OutOfRange, days, "days", last_row, depot, days)
            self.refused(OutOfRange, days, "days", next_row, depot, days, [-1])
            self.refused(OutOfRange, days, "days", previous_row, depot, days, [-1])
        for call in (next_row, previous_row):
            for many in (0, 3, 5):
                self.refused(BadPasses, many, "length", call, depot, 7, [-1] * many)
            self.refused(BadPasses, 1, "pass", call, depot, 7, [0, -1, 0, -2])

    def test_what_is_returned_may_be_changed(self):
        depot = Depot(3, 1, [1, 1, 2, 3])
        passes = [1, 2, 2, 2]
        for row in (first_row(depot, 7), last_row(depot, 7), next_row(depot, 7, passes)):
            row.clear()
        self.same(passes, [1, 2, 2, 2])
        self.same(next_row(depot, 7, passes), [1, 2, 3, 1])


if __name__ == "__main__":
    unittest.main()
