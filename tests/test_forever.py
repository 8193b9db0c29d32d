"""Points 41 to 44: where written lists lead to for ever."""

import itertools
import unittest

from outagain.depots import Depot
from outagain.errors import OutOfRange
from outagain.forever import far, parting, rates, widest
from outagain.walking import walk
from outagain.weeklists import lead
from tests.leading import all_lists, drawn_lists, drawn_small_depot, led, refusals
from tests.support import FAR, PromiseTest, new_dice, small_depots

DEPOT = Depot(3, 1, [1, 1, 2, 3])
ROWS = [[3, 2, 1, 0], [0, 1, 2, 3], [2, 0, 3, 1]]


def depots_and_lists(seed, drawn):
    """Small depots with lists, and drawn greater ones."""
    dice = new_dice(seed)
    for depot in small_depots((1, 2, 3), (1, 2), (1, 2, 3)):
        for rows in all_lists(depot):
            if depot.period < 3 or dice.random() < 0.1:
                yield depot, rows
    for _ in range(drawn):
        depot = drawn_small_depot(dice)
        yield depot, drawn_lists(dice, depot)


def least_numbers(depot, rows):
    """The numbers before and round by going through the standings, and the passes behind each day."""
    for rounds in (12, 60, 400):
        _, behind = led(depot, rows, rounds * depot.period)
        standings = [tuple(morning - at * depot.period for morning in nexts)
                     for at, (_, nexts) in enumerate(behind[::depot.period])]
        for a, standing in enumerate(standings):
            if standing in standings[a + 1:]:
                return a, standings[a + 1:].index(standing) + 1, behind
    return None


class RatesTest(PromiseTest):
    def test_least_numbers_and_gains(self):
        found = set()
        for depot, rows in depots_and_lists(100, 400):
            before, again, behind = least_numbers(depot, rows)
            begin, end = behind[before * depot.period][0], behind[(before + again) * depot.period][0]
            gains = tuple(two - one for one, two in zip(begin, end))
            self.same(self.untouched(rates, depot, rows), (before, again, gains))
            self.assertEqual(again, 1)
            self.assertEqual(sorted(gains), [0] * (depot.size - depot.quota) + [depot.period] * depot.quota)
            found.add(before)
        self.assertTrue({0, 1, 2} <= found)

    def test_ordinary(self):
        self.same(rates(DEPOT, [[0, 1, 2, 3]] * 3), (0, 1, (3, 0, 0, 0)))
        self.same(rates(depot=DEPOT, rows=tuple(map(tuple, ROWS))), (2, 1, (0, 0, 3, 0)))

    def test_errors_in_their_order(self):
        refusals(self, rates)


class FarTest(PromiseTest):
    def test_walking_the_led_book(self):
        for depot, rows in depots_and_lists(101, 150):
            days = 20 if depot.size < 4 else 400
            _, behind = led(depot, rows, days)
            for at in range(days + 1) if days == 20 else (0, 1, 5, 6, 17, 398, 399, 400):
                self.same(far(depot, rows, at), behind[at])
            after = walk(depot, lead(depot, rows, days))
            self.same(self.untouched(far, depot, rows, days), (after.passes, after.nexts))

    def test_far_days_by_before_round_and_gains(self):
        dice = new_dice(102)
        for _ in range(200):
            depot = drawn_small_depot(dice)
            rows = drawn_lists(dice, depot)
            before, again, behind = least_numbers(depot, rows)
            _, _, gains = rates(depot, rows)
            for days in (FAR, FAR - 1, dice.randint(0, FAR), dice.randint(0, 10 ** 6)):
                times = max(0, days - before * depot.period) // (again * depot.period)
                near = days - times * again * depot.period
                passes, nexts = behind[near]
                self.same(far(depot, rows, days), (tuple(told + times * gain for told, gain in zip(passes, gains)),
                                                   tuple(morning + days - near for morning in nexts)))

    def test_ordinary(self):
        rows = [[0, 1, 2, 3]] * 3
        self.same(far(DEPOT, rows, 9), ((9, 0, 0, 0), (10, 10, 11, 12)))
        self.same(far(depot=DEPOT, rows=rows, days=FAR), ((FAR, 0, 0, 0), (FAR + 1, FAR + 3, FAR + 1, FAR + 2)))
        self.same(far(DEPOT, ROWS, 6), ((0, 2, 2, 2), (7, 9, 7, 8)))

    def test_errors_in_their_order(self):
        for days in (-1, 0, FAR + 1):
            refusals(self, far, days)
        for days in (-1, FAR + 1):
            self.refused(OutOfRange, days, "days", far, DEPOT, ROWS, days)


class WidestTest(PromiseTest):
    def test_going_day_by_day(self):
        words = set()
        for depot, rows in depots_and_lists(103, 300):
            answer = self.untouched(widest, depot, rows)
            _, behind = led(depot, rows, 200)
            spreads = [max(passes) - min(passes) for passes, _ in behind]
            _, _, gains = rates(depot, rows)
            if len(set(gains)) == 1:
                self.same(answer, ("bounded", max(spreads), spreads.index(max(spreads))))
                self.assertEqual(depot.size, depot.quota)
            else:
                self.same(answer, ("endless", gains.index(max(gains)), gains.index(min(gains))))
                self.assertGreater(spreads[200], spreads[100])
            words.add(answer[0])
        self.assertEqual(words, {"bounded", "endless"})

    def test_ordinary(self):
        self.same(widest(depot=DEPOT, rows=tuple(map(tuple, ROWS))), ("endless", 2, 0))
        self.same(widest(DEPOT, [[0, 1, 2, 3]] * 3), ("endless", 0, 1))
        self.same(widest(Depot(4, 3, [1, 1, 1]), [[2, 1, 0]] * 4), ("bounded", 0, 0))
        self.same(widest(Depot(1, 1, [1]), [[0]]), ("bounded", 0, 0))
        self.same(widest(Depot(2, 2, [1, 1, 2, 1]), [[3, 1, 2, 0]] * 2), ("endless", 1, 0))

    def test_errors_in_their_order(self):
        refusals(self, widest)


class PartingTest(PromiseTest):
    def parts(self, depot, rows, others):
        """The answer is what going day by day tells."""
        days = 40 * depot.period
        one, two = led(depot, rows, days)[1], led(depot, others, days)[1]
        unlike = [day for day in range(days + 1) if one[day][0] != two[day][0]]
        expected = ("part", unlike[0]) if unlike else ("alike",)
        self.same(self.untouched(parting, depot, rows, others), expected)
        self.same(parting(depot, others, rows), expected)
        return expected

    def test_all_pairs_of_lists_of_small_depots(self):
        dice = new_dice(104)
        for depot in small_depots((1, 2, 3), (1, 2), (1, 2, 3)):
            pairs = list(itertools.product(all_lists(depot), repeat=2)) if depot.size < 3 or depot.period == 1 else []
            for rows, others in dice.sample(pairs, min(len(pairs), 60)):
                self.parts(depot, rows, others)

    def test_lists_that_differ_by_little(self):
        dice = new_dice(105)
        found = {}
        for _ in range(600):
            depot = drawn_small_depot(dice)
            rows = drawn_lists(dice, depot)
            others = [list(row) for row in rows]
            for _ in range(dice.choice([1, 1, 2])):
                row, at = dice.choice(others), dice.randrange(max(1, depot.size - 1))
                row[at:at + 2] = row[at:at + 2][::-1]
            answer = self.parts(depot, rows, others)
            late = answer[1] > depot.period if answer[0] == "part" else rows != others
            found[answer[0], late] = found.get((answer[0], late), 0) + 1
        kinds = (("part", True), ("part", False), ("alike", True))
        self.assertTrue(all(found.get(kind, 0) > 3 for kind in kinds), found)

    def test_lists_that_part_late(self):
        depot = Depot(6, 1, [1, 4, 2, 1, 3, 4])
        rows = [[4, 0, 5, 3, 1, 2], [0, 2, 5, 3, 4, 1], [3, 1, 0, 4, 2, 5], [1, 4, 5, 2, 3, 0], [3, 5, 1, 2, 4, 0],
                [2, 5, 3, 1, 4, 0]]
        self.same(self.parts(depot, rows, [[4, 0, 5, 3, 2, 1]] + rows[1:]), ("part", 25))
        depot = Depot(6, 1, [1, 2, 3, 1, 5, 6])
        rows = [[4, 0, 3, 5, 1, 2], [2, 5, 0, 1, 3, 4], [4, 1, 2, 3, 0, 5], [5, 0, 4, 2, 1, 3], [5, 2, 4, 0, 1, 3],
                [3, 4, 2, 5, 1, 0]]
        self.same(self.parts(depot, rows, rows[:5] + [[3, 4, 2, 5, 0, 1]]), ("part", 24))

    def test_other_lists(self):
        dice = new_dice(106)
        for _ in range(200):
            depot = drawn_small_depot(dice)
            self.parts(depot, drawn_lists(dice, depot), drawn_lists(dice, depot))

    def test_ordinary(self):
        rows, others = [[0, 1, 2, 3]] * 3, [[0, 1, 2, 3], [3, 2, 1, 0], [0, 1, 2, 3]]
        self.same(parting(depot=DEPOT, rows=rows, others=others), ("part", 2))
        self.same(parting(DEPOT, rows, tuple(map(tuple, rows))), ("alike",))
        self.same(parting(DEPOT, rows, [[0, 1, 3, 2], [0, 3, 2, 1], [0, 2, 1, 3]]), ("alike",))
        self.same(parting(DEPOT, rows, [[1, 0, 2, 3]] * 3), ("part", 1))

    def test_errors_of_the_first_lists_ahead_of_those_of_the_second_ones(self):
        good = [[0, 1, 2, 3]] * 3
        for others in (good, [], [[9]] * 3):
            refusals(self, parting, others)
        for size, period in ((7, 3), (6, 7)):
            self.refused(OutOfRange, size if size == 7 else period, "drivers" if size == 7 else "period", parting,
                         Depot(period, 1, [1] * size), [[0]], [[0]])
        refusals(self, lambda depot, others: parting(depot, good, others) if depot.size == 4
                 else parting(depot, [[0]], others))


if __name__ == "__main__":
    unittest.main()
