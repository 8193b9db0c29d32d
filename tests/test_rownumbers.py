"""Point 27: counting possible rows, and the rank of a row."""

import bisect
import itertools
import unittest

from outagain.depots import Depot
from outagain.errors import BadPasses, OutOfRange
from outagain.passorder import first_row, last_row, next_row, previous_row
from outagain.passvalues import pass_values
from outagain.rownumbers import number_of, rank
from outagain.walking import walk
from tests.counting import worlds
from tests.support import FAR, PromiseTest, new_dice, random_book, random_depot, small_depots


def sorted_rows(depot, most_days):
    """For each number of days from 0 on, the sorted list of the possible rows."""
    return [sorted({passes for _, passes in found})
            for found in worlds(depot.period, depot.quota, depot.firsts, most_days)]


def many_completions(rows, told):
    return sum(all(known in (None, one) for known, one in zip(told, row)) for row in rows)


class NumberTest(PromiseTest):
    def compared(self, depot, days, rows, told):
        self.same(self.untouched(number_of, depot, days, told), many_completions(rows, told))

    def test_small_depots(self):
        for depot in small_depots((1, 2, 3), (1, 2), (1, 2, 3)):
            for days, rows in enumerate(sorted_rows(depot, 8)):
                self.compared(depot, days, rows, [None] * depot.size)
                for told in itertools.product([None, *range(4)], repeat=depot.size):
                    self.compared(depot, days, rows, told)

    def test_all_but_one_some_and_none_told(self):
        dice = new_dice(1)
        depots = [*small_depots((2, 4), (1, 2), (4,)), Depot(3, 2, [1, 1, 2, 3, 3]), Depot(2, 2, [2, 1, 2, 1, 2, 2])]
        for depot in depots:
            for days, rows in enumerate(sorted_rows(depot, 9)):
                row = dice.choice(rows)
                one = dice.randrange(depot.size)
                self.compared(depot, days, rows, row)
                self.compared(depot, days, rows, [*row[:one], None, *row[one + 1:]])
                self.compared(depot, days, rows, [dice.choice([None, known]) for known in row])
                self.compared(depot, days, rows, [None] * depot.size)
                self.compared(depot, days, rows, [dice.choice([None, None, dice.randint(0, days)]) for _ in row])

    def test_far_days_by_the_passes_of_one_driver(self):
        dice = new_dice(2)
        for _ in range(60):
            depot = random_depot(dice, most_drivers=8)
            book = random_book(dice, depot, dice.randint(0, 8), dice.choice([3, 20, FAR // 8]))
            passes = walk(depot, book).passes
            self.same(number_of(depot, book.days, passes), 1)
            one = dice.randrange(depot.size)
            told = [*passes[:one], None, *passes[one + 1:]]
            self.same(number_of(depot, book.days, told), 1)
            if depot.size > 1:
                told[one - 1] = None
                values = self.values(depot, book.days, told, one)
                self.same(number_of(depot, book.days, told), values)

    def values(self, depot, days, told, driver):
        """How many passes the driver has in the completions; with one other driver free, each is in one of them."""
        rows = pass_values(depot, days, told, driver)
        return sum((greatest - least) // depot.period + 1 for _, least, greatest in rows)

    def test_sum_over_the_values_of_a_driver(self):
        dice = new_dice(3)
        for _ in range(25):
            depot = random_depot(dice, most_drivers=7)
            days = dice.randint(0, 4 * depot.period)
            book = random_book(dice, depot, days, 1)
            told = [dice.choice([None, None, known]) for known in walk(depot, book).passes]
            driver = dice.randrange(depot.size)
            total = 0
            for _, least, greatest in pass_values(depot, book.days, told, driver):
                for value in range(least, greatest + 1, depot.period):
                    total += number_of(depot, book.days, [*told[:driver], value, *told[driver + 1:]])
            self.same(number_of(depot, book.days, told), total)

    def test_known_numbers(self):
        depot = Depot(3, 1, [1, 1, 2, 3])
        self.same(number_of(depot, 7, [None] * 4), 52)
        self.same(number_of(depot=depot, days=7, told=(1, 2, None, None)), 3)
        self.same(number_of(depot, 7, [1, 2, 2, 2]), 1)
        self.same(number_of(depot, 7, [1, 2, 2, 3]), 0)
        self.same(number_of(depot, 7, [8, None, None, None]), 0)
        self.same(number_of(depot, 0, [None] * 4), 1)
        self.same(number_of(Depot(1, 1, [1, 1]), FAR, [None, None]), FAR + 1)
        self.same(number_of(Depot(1, 1, [1, 1, 1]), FAR, [None] * 3), (FAR + 1) * (FAR + 2) // 2)
        self.same(number_of(Depot(1, 2, [1, 1]), FAR, [None] * 2), 1)
        self.same(number_of(Depot(2, 1, [1, 2]), FAR, [None] * 2), FAR)

    def test_limits(self):
        self.same(number_of(Depot(8, 2, [1] * 8), 0, [None] * 8), 1)
        self.assertGreater(number_of(Depot(8, 2, [1, 2, 3, 4, 5, 6, 7, 1]), FAR, [None] * 8), FAR ** 6)
        for many in (9, 12):
            for days, told in ((0, [None] * many), (-1, [None] * many), (7, [-1]), (FAR + 1, [])):
                self.refused(OutOfRange, many, "drivers", number_of, Depot(2, 1, [1] * many), days, told)

    def test_wrong_arguments(self):
        depot = Depot(8, 1, [1, 1, 2, 3, 4, 5, 6, 8])
        for days in (-1, FAR + 1):
            self.refused(OutOfRange, days, "days", number_of, depot, days, [-1])
        for many in (0, 7, 9):
            self.refused(BadPasses, many, "length", number_of, depot, 7, [-1] * many)
        self.refused(BadPasses, 2, "pass", number_of, depot, 7, [None, 99, -1, -2, 0, 0, 0, 0])


class RankTest(PromiseTest):
    def test_possible_rows_of_small_depots(self):
        for depot in small_depots((1, 2, 3), (1, 2), (1, 2, 3)):
            for days, rows in enumerate(sorted_rows(depot, 7)):
                for at, row in enumerate(rows):
                    self.same(self.untouched(rank, depot, days, row), at)

    def test_rows_that_are_not_possible(self):
        for depot in small_depots((1, 2, 3), (1, 2), (1, 2)):
            for days, rows in enumerate(sorted_rows(depot, 5)):
                for row in itertools.product([*range(2 * days + 2), FAR], repeat=depot.size):
                    self.same(self.untouched(rank, depot, days, list(row)), bisect.bisect_left(rows, row))

    def test_four_and_five_drivers(self):
        dice = new_dice(4)
        for depot in [*small_depots((2, 4), (1, 2), (4,)), Depot(3, 2, [1, 1, 2, 3, 3]), Depot(4, 1, [1, 2, 4, 1, 3])]:
            for days, rows in enumerate(sorted_rows(depot, 9)):
                for row in (dice.choice(rows), tuple(dice.randint(0, days + 1) for _ in range(depot.size))):
                    self.same(rank(depot, days, row), bisect.bisect_left(rows, row))
                self.same(rank(depot, days, rows[-1]), len(rows) - 1)

    def test_far_days(self):
        dice = new_dice(5)
        for _ in range(40):
            depot = random_depot(dice, most_period=4, most_drivers=5)
            book = random_book(dice, depot, 8, FAR // 8)
            passes = list(walk(depot, book).passes)
            place = rank(depot, book.days, passes)
            for other, change in ((next_row, 1), (previous_row, -1)):
                row = other(depot, book.days, passes)
                if row is not None:
                    self.same(rank(depot, book.days, row), place + change)
            self.same(rank(depot, book.days, first_row(depot, book.days)), 0)
            number = number_of(depot, book.days, [None] * depot.size)
            self.same(rank(depot, book.days, last_row(depot, book.days)), number - 1)
            self.between(depot, book.days, [dice.randint(0, FAR) for _ in passes])

    def between(self, depot, days, row):
        """A row that is not possible has the rank of the next one, if there is one."""
        behind, place = next_row(depot, days, row), rank(depot, days, row)
        number = number_of(depot, days, [None] * depot.size)
        self.assertEqual(place, number if behind is None else rank(depot, days, behind))

    def test_known_ranks(self):
        depot = Depot(3, 1, [1, 1, 2, 3])
        self.same(rank(depot, 7, [1, 2, 2, 2]), 20)
        self.same(rank(depot=depot, days=7, passes=(0, 0, 0, 0)), 0)
        self.same(rank(depot, 7, [0, 1, 1, 5]), 0)
        self.same(rank(depot, 7, [8, 0, 0, 0]), 52)
        self.same(rank(depot, 7, [FAR ** 2] * 4), 52)
        self.same(rank(depot, 0, [0, 0, 0, 0]), 0)
        self.same(rank(Depot(1, 1, [1, 1]), FAR, [FAR // 2, 0]), FAR // 2)
        self.same(rank(Depot(1, 1, [1, 1]), FAR, [FAR, 0]), FAR)
        self.same(rank(Depot(2, 1, [1, 2]), FAR, [FAR, 0]), FAR - 1)

    def test_limits(self):
        self.same(rank(Depot(4, 2, [1, 1, 2, 3, 4]), 0, [0] * 5), 0)
        for period, many in ((4, 6), (5, 6), (8, 12), (1, 7)):
            for days, row in ((0, [0] * many), (-1, [0] * many), (FAR + 1, [-1]), (5, [-1] * many)):
                self.refused(OutOfRange, many, "drivers", rank, Depot(period, 1, [1] * many), days, row)
        for period in (5, 6, 8):
            for days, row in ((0, [0] * 5), (-1, [0] * 5), (FAR + 1, [-1]), (5, [-1] * 5)):
                self.refused(OutOfRange, period, "period", rank, Depot(period, 1, [1] * 5), days, row)

    def test_wrong_arguments(self):
        depot = Depot(4, 1, [1, 1, 2, 3, 4])
        for days in (-1, FAR + 1):
            self.refused(OutOfRange, days, "days", rank, depot, days, [-1])
        for many in (0, 4, 6):
            self.refused(BadPasses, many, "length", rank, depot, 7, [-1] * many)
        self.refused(BadPasses, 2, "pass", rank, depot, 7, [0, 99, -1, -2, 0])


if __name__ == "__main__":
    unittest.main()
