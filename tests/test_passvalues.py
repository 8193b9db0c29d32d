"""Points 24 and 25: the passes of single drivers, and what a row misses to be possible."""

import itertools
import unittest

from outagain.depots import Depot
from outagain.errors import BadPasses, OutOfRange
from outagain.halfknown import complete
from outagain.judging import possible
from outagain.passvalues import exchanges, mending, misread, pass_values, settled
from outagain.walking import walk
from tests.counting import worlds
from tests.reasons import ReasonTest, told_numbers
from tests.support import FAR, PromiseTest, new_dice, random_book, random_depot, small_depots


def passes_by_days(depot, most_days):
    """For each number of days from 0 on, the possible rows."""
    return [sorted({passes for _, passes in found})
            for found in worlds(depot.period, depot.quota, depot.firsts, most_days)]


def completions(rows, told):
    return [row for row in rows if all(known in (None, one) for known, one in zip(told, row))]


def value_rows(depot, driver, values):
    """The rows (weekday, least, greatest) of some passes."""
    by_weekday = {}
    for value in sorted(values):
        by_weekday.setdefault((depot.firsts[driver] + value - 1) % depot.period + 1, []).append(value)
    return [(c, found[0], found[-1]) for c, found in sorted(by_weekday.items())]


def values_in(depot, rows):
    """All passes of the rows (weekday, least, greatest)."""
    return sorted(value for _, least, greatest in rows for value in range(least, greatest + 1, depot.period))


def with_one(row, driver, value):
    return [*row[:driver], value, *row[driver + 1:]]


class ValuesTest(ReasonTest):
    def compared(self, depot, days, rows, told, driver):
        fits = completions(rows, told)
        values = sorted({row[driver] for row in fits})
        answer = self.untouched(pass_values, depot, days, told, driver)
        self.same(answer, value_rows(depot, driver, values))
        self.assertEqual(values_in(depot, answer), values)
        self.settling(depot, days, told, driver, values)

    def settling(self, depot, days, told, driver, values):
        """The answer of settled is right for a driver who can have just these passes."""
        answer = self.untouched(settled, depot, days, told, driver)
        if not values:
            self.assertEqual((answer[0], len(answer)), ("none", 2))
            self.right_reason(answer[1], told_numbers(depot, days, told))
        elif len(values) == 1:
            self.same(answer, ("sure", values[0]))
        else:
            self.open(depot, days, told, driver, answer)
        return answer[0]

    def open(self, depot, days, told, driver, answer):
        word, one, other = answer
        self.same(answer, ("open", list(one), list(other)))
        for row in (one, other):
            self.assertTrue(possible(depot, days, row))
            self.assertEqual(completions([row], told), [row])
        self.assertNotEqual(one[driver], other[driver])

    def test_small_depots(self):
        dice = new_dice(1)
        for depot in small_depots((1, 2, 3), (1, 2), (1, 2, 3)):
            for days, rows in enumerate(passes_by_days(depot, 7)):
                choices = list(itertools.product([None, *range(days + 2)], repeat=depot.size))
                some = dice.sample(choices, min(len(choices), 15))
                some += [[dice.choice([None, known]) for known in dice.choice(rows)] for _ in range(5)]
                for told in some + [[None] * depot.size]:
                    for driver in range(depot.size):
                        self.compared(depot, days, rows, told, driver)

    def test_four_and_five_drivers(self):
        dice = new_dice(2)
        for depot in [*small_depots((4,), (1, 2), (4,)), Depot(3, 2, [1, 1, 2, 3, 3]), Depot(2, 2, [1, 2, 1, 2, 1])]:
            for days, rows in enumerate(passes_by_days(depot, 9)):
                for driver in (range(depot.size) if depot.size > 4 else [dice.randrange(4)]):
                    told = [dice.choice([None, None, known]) for known in dice.choice(rows)]
                    self.compared(depot, days, rows, told, driver)

    def test_ends_of_the_rows_in_greater_depots(self):
        dice = new_dice(3)
        words = set()
        for _ in range(120):
            depot = random_depot(dice)
            book = random_book(dice, depot, dice.randint(0, 10), dice.choice([5, 20, FAR // 10]))
            passes = walk(depot, book).passes
            told = [dice.choice([None, known]) for known in passes]
            driver = dice.randrange(depot.size)
            rows = self.untouched(pass_values, depot, book.days, told, driver)
            self.ends(depot, book.days, told, driver, rows)
            self.assertTrue([row for row in rows if row[1] <= passes[driver] <= row[2]])
            values = [end for row in rows for end in row[1:]]
            words.add(self.settling(depot, book.days, told, driver, sorted(set(values))))
        self.assertEqual(words, {"sure", "open"})

    def ends(self, depot, days, told, driver, rows):
        """Each row reaches just as far as completions do, and the other weekdays have none near its ends."""
        self.assertEqual(rows, sorted(rows))
        for c, least, greatest in rows:
            self.assertEqual((greatest - least) % depot.period, 0)
            middle = least + (greatest - least) // depot.period // 2 * depot.period
            for value, right in ((least, True), (greatest, True), (middle, True), (least - depot.period, False),
                                 (greatest + depot.period, False)):
                if value >= 0 and told[driver] in (None, value):
                    answer = complete(depot, days, with_one(told, driver, value))
                    self.assertEqual(answer[0] == "passes", right)
        found = [row[0] for row in rows]
        for value in range(3 * depot.period):
            c = (depot.firsts[driver] + value - 1) % depot.period + 1
            if c not in found and told[driver] is None:
                self.assertNotEqual(complete(depot, days, with_one(told, driver, value))[0], "passes")

    def test_far_days(self):
        depot = Depot(3, 1, [1, 1, 2, 3])
        nothing = [None] * 4
        self.same(pass_values(depot, FAR, nothing, 0), [(1, 0, FAR - 1), (2, 1, FAR), (3, 2, FAR - 2)])
        self.same(pass_values(depot, FAR, nothing, 3), [(1, 1, FAR - 3), (2, 2, FAR - 2), (3, 0, FAR - 4)])
        self.same(pass_values(depot, FAR, [None, 0, 0, 0], 0), [(2, FAR, FAR)])
        self.same(settled(depot, FAR, [None, 0, 0, 0], 0), ("sure", FAR))
        self.same(settled(depot, FAR, [FAR, None, None, None], 1), ("sure", 0))
        self.same(settled(depot, FAR, nothing, 3)[0], "open")

    def test_told_drivers(self):
        depot = Depot(3, 1, [1, 1, 2, 3])
        self.same(pass_values(depot, 7, [1, 2, None, None], 0), [(2, 1, 1)])
        self.same(pass_values(depot, 7, (1, 2, None, None), 1), [(3, 2, 2)])
        self.same(settled(depot, 7, [1, 2, None, None], 1), ("sure", 2))
        self.same(pass_values(depot, 7, [0, 3, None, None], 1), [])
        self.same(settled(depot, 7, [0, 3, None, None], 1), ("none", ("crowd", 1, 2, 1)))
        self.same(settled(depot, 7, [0, 3, None, None], 2), ("none", ("crowd", 1, 2, 1)))
        self.same(pass_values(depot, 7, [1, 2, 2, 2], 3), [(2, 2, 2)])
        self.same(pass_values(depot=depot, days=7, told=[1, 2, 2, 3], driver=3), [])

    def test_wrong_arguments(self):
        depot = Depot(3, 1, [1, 1, 2, 3])
        for call in (pass_values, settled):
            for days in (-1, FAR + 1):
                self.refused(OutOfRange, days, "days", call, depot, days, [-1], 9)
            for many in (0, 3, 5):
                self.refused(BadPasses, many, "length", call, depot, 7, [-1] * many, 9)
            self.refused(BadPasses, 1, "pass", call, depot, 7, [None, -1, None, -2], 9)
            for driver in (-1, 4, 12, FAR):
                self.refused(OutOfRange, driver, "driver", call, depot, 7, [None] * 4, driver)
                self.refused(OutOfRange, driver, "driver", call, depot, 7, [9, 9, 9, 9], driver)

    def test_what_is_returned_may_be_changed(self):
        depot = Depot(3, 1, [1, 1, 2, 3])
        told = [1, 2, None, None]
        pass_values(depot, 7, told, 2).clear()
        settled(depot, 7, told, 2)[1].clear()
        self.same(told, [1, 2, None, None])
        self.same(pass_values(depot, 7, told, 2), [(1, 2, 2), (2, 0, 3)])


class MisreadTest(PromiseTest):
    def compared(self, depot, days, passes):
        total = depot.quota * days
        expected = []
        for driver, known in enumerate(passes):
            value = known + total - sum(passes)
            if value != known and value >= 0 and possible(depot, days, with_one(passes, driver, value)):
                expected.append((driver, value))
        self.same(self.untouched(misread, depot, days, passes), expected)
        expected = []
        for one, other in itertools.combinations(range(depot.size), 2):
            row = with_one(with_one(passes, one, passes[other]), other, passes[one])
            if passes[one] != passes[other] and possible(depot, days, row):
                expected.append((one, other))
        self.same(self.untouched(exchanges, depot, days, passes), expected)

    def test_small_depots(self):
        for depot in small_depots((1, 2, 3), (1, 2), (1, 2, 3)):
            for days, rows in enumerate(passes_by_days(depot, 4)):
                for passes in itertools.product(range(days + 2), repeat=depot.size):
                    self.compared(depot, days, passes)
                    found = [(i, row[i]) for i in range(depot.size) for row in rows
                             if [k for k in range(depot.size) if row[k] != passes[k]] == [i]]
                    self.same(misread(depot, days, passes), found)

    def test_greater_depots(self):
        dice = new_dice(4)
        many = [0, 0]
        for _ in range(300):
            depot = random_depot(dice)
            book = random_book(dice, depot, dice.randint(0, 10), dice.choice([5, 20, FAR // 10]))
            passes = list(walk(depot, book).passes)
            self.compared(depot, book.days, passes)
            self.same(misread(depot, book.days, passes), [])
            one, other = dice.randrange(depot.size), dice.randrange(depot.size)
            passes[one], passes[other] = passes[other], passes[one]
            self.compared(depot, book.days, passes)
            many[0] += len(exchanges(depot, book.days, passes)) > 0
            right = passes[one]
            passes[one] = dice.randint(0, right + 3)
            self.compared(depot, book.days, passes)
            many[1] += len(misread(depot, book.days, passes)) > 1
        self.assertTrue(min(many) > 20, many)

    def test_ordinary(self):
        depot = Depot(3, 1, [1, 1, 2, 3])
        self.same(misread(depot, 7, [1, 2, 2, 3]), [(1, 1), (3, 2)])
        self.same(misread(depot, 7, (1, 2, 2, 2)), [])
        self.same(misread(depot=depot, days=7, passes=[2, 1, 2, 2]), [])
        self.same(exchanges(depot, 7, [2, 1, 2, 2]), [(0, 1)])
        self.same(exchanges(depot=depot, days=7, passes=(2, 0, 4, 2)), [])
        self.same(exchanges(Depot(1, 1, [1, 1]), 3, [1, 2]), [(0, 1)])
        self.same(exchanges(Depot(1, 1, [1, 1]), 2, [1, 1]), [])
        self.same(misread(depot, FAR, [FAR - 1, 0, 0, 0]), [(0, FAR), (1, 1)])
        self.same(misread(depot, 6, [9, 0, 0, 0]), [(0, 6)])

    def test_wrong_arguments(self):
        depot = Depot(3, 1, [1, 1, 2, 3])
        for call in (misread, exchanges, mending):
            for days in (-1, FAR + 1):
                self.refused(OutOfRange, days, "days", call, depot, days, [-1])
            for many in (0, 3, 5):
                self.refused(BadPasses, many, "length", call, depot, 7, [-1] * many)
            self.refused(BadPasses, 1, "pass", call, depot, 7, [0, -1, 0, -2])


class MendingTest(PromiseTest):
    def mended(self, depot, days, passes, count=None):
        told = self.untouched(mending, depot, days, passes)
        found, drivers, row = told
        self.same(told, (int(found), tuple(drivers), list(row)))
        self.assertEqual(drivers, tuple(i for i in range(depot.size) if row[i] != passes[i]))
        self.assertEqual(found, len(drivers))
        self.assertTrue(possible(depot, days, row))
        self.assertEqual(found, self.fewest(depot, days, passes) if count is None else count)
        return found

    def fewest(self, depot, days, passes):
        """The least number of drivers, found by trying all sets of them."""
        for many in range(depot.size + 1):
            for drivers in itertools.combinations(range(depot.size), many):
                told = [None if i in drivers else known for i, known in enumerate(passes)]
                if complete(depot, days, told)[0] == "passes":
                    return many

    def test_small_depots(self):
        counts = set()
        for depot in small_depots((1, 2, 3), (1, 2), (1, 2, 3)):
            for days, rows in enumerate(passes_by_days(depot, 4)):
                for passes in itertools.product(range(days + 2), repeat=depot.size):
                    count = min(sum(a != b for a, b in zip(row, passes)) for row in rows)
                    counts.add(self.mended(depot, days, passes, count))
        self.assertEqual(counts, {0, 1, 2, 3})

    def test_possible_rows(self):
        dice = new_dice(5)
        for _ in range(50):
            depot = random_depot(dice, most_drivers=8)
            book = random_book(dice, depot, dice.randint(0, 8), dice.choice([5, FAR // 8]))
            passes = list(walk(depot, book).passes)
            self.same(mending(depot, book.days, passes), (0, (), passes))
            self.same(mending(depot, book.days, tuple(passes)), (0, (), passes))
            mending(depot, book.days, passes)[2].clear()
            self.assertEqual(len(passes), depot.size)

    def test_eight_drivers(self):
        dice = new_dice(6)
        counts = set()
        for _ in range(25):
            depot = random_depot(dice)
            while depot.size != 8:
                depot = random_depot(dice)
            book = random_book(dice, depot, 6, dice.choice([5, FAR // 8]))
            passes = list(walk(depot, book).passes)
            for driver in dice.sample(range(8), dice.randint(1, 4)):
                passes[driver] = dice.randint(0, passes[driver] + 5)
            counts.add(self.mended(depot, book.days, passes))
        counts.add(self.mended(Depot(8, 1, [1, 2, 3, 4, 5, 6, 7, 8]), 0, [FAR] * 8, 8))
        self.assertTrue({1, 2, 8} <= counts, counts)

    def test_too_many_drivers(self):
        for many in (9, 10, 12):
            depot = Depot(3, 2, [1] * many)
            for days, passes in ((7, [0] * many), (-1, [0] * many), (7, [0] * 3), (FAR + 1, [-1]), (0, [0] * many)):
                self.refused(OutOfRange, many, "drivers", mending, depot, days, passes)
        self.same(mending(depot=Depot(3, 2, [1] * 8), days=0, passes=[0] * 8), (0, (), [0] * 8))


if __name__ == "__main__":
    unittest.main()
