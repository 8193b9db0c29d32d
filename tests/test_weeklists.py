"""Point 41: the led book."""

import unittest

from outagain.books import Book
from outagain.depots import Depot
from outagain.errors import OutOfRange
from outagain.walking import walk
from outagain.weeklists import lead
from tests.leading import all_lists, drawn_lists, drawn_small_depot, led, refusals
from tests.support import FAR, PromiseTest, new_dice, small_depots

DEPOT = Depot(3, 1, [1, 1, 2, 3])
ROWS = [[3, 2, 1, 0], [0, 1, 2, 3], [2, 0, 3, 1]]


class LeadTest(PromiseTest):
    def leads(self, depot, rows, days):
        """The led book has the runners of each morning, and is a book of the depot."""
        book = self.untouched(lead, depot, rows, days)
        self.assertIs(type(book), Book)
        going, behind = led(depot, rows, days)
        self.same((book.days, book.rows()), (days, going))
        after = walk(depot, book)
        self.same((after.passes, after.nexts), behind[-1])

    def test_all_lists_of_small_depots(self):
        for depot in small_depots((1, 2, 3), (1, 2), (1, 2, 3)):
            for at, rows in enumerate(all_lists(depot)):
                self.leads(depot, rows, 9 if at % 5 else 25)

    def test_drawn_lists_of_greater_depots(self):
        dice = new_dice(90)
        for _ in range(150):
            depot = drawn_small_depot(dice)
            self.leads(depot, drawn_lists(dice, depot), dice.choice([0, 1, 7, 40, 400]))

    def test_days(self):
        for days in (0, 1, 2, 399, 400):
            self.leads(DEPOT, ROWS, days)
        for days in (-1, 401, 402, FAR, FAR + 1):
            self.refused(OutOfRange, days, "days", lead, DEPOT, ROWS, days)

    def test_ordinary(self):
        self.same(lead(depot=DEPOT, rows=tuple(map(tuple, ROWS)), days=6).rows(), [(1,), (1,), (3,), (3,), (2,), (2,)])

    def test_greatest_depots(self):
        depot = Depot(6, 2, [1, 1, 3, 4, 5, 6])
        self.leads(depot, [[5, 4, 3, 2, 1, 0]] * 6, 400)

    def test_errors_in_their_order(self):
        for days in (-1, 5, 401):
            refusals(self, lead, days)

    def test_later_changes_have_no_effect(self):
        rows = [list(row) for row in ROWS]
        book = lead(DEPOT, rows, 6)
        before = book.stretches
        rows[0].reverse()
        rows.clear()
        self.same(book.stretches, before)


if __name__ == "__main__":
    unittest.main()
