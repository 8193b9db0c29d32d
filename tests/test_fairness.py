"""Points 30 and 31: even passes."""

import unittest

from outagain.bounds import within_stands
from outagain.depots import Depot
from outagain.errors import OutOfRange
from outagain.fairness import cap_for_all, most_for_all, spread
from outagain.judging import possible
from tests.papers import rows_from_the_period, stands
from tests.support import FAR, PromiseTest, new_dice, random_depot, small_depots


def enough_days(dice, depot):
    least = 3 * depot.period * depot.size
    return dice.choice([least, least + 1, least + dice.randint(0, 99), dice.randint(least, FAR), FAR, FAR - 1])


class FairTest(PromiseTest):
    def paper(self, depot, days, low, high, answer):
        """The answer is a paper that stands for the same bounds for all drivers."""
        self.same(answer, (answer[0], *[tuple(part) for part in answer[1:]]))
        self.assertIn(answer[0], ("crowd", "least", "most"))
        bounds = [low] * depot.size, [high] * depot.size
        self.assertTrue(stands(depot, days, *bounds, answer))
        self.assertIs(within_stands(depot, days, *bounds, answer), True)

    def most(self, depot, days):
        answer = most_for_all(depot, days)
        number, row, paper = answer
        self.same(answer, (int(number), [int(told) for told in row], paper))
        self.assertTrue(possible(depot, days, row) and min(row) >= number)
        self.paper(depot, days, number + 1, days + 1, paper)
        return number

    def cap(self, depot, days):
        answer = cap_for_all(depot, days)
        number, row, paper = answer
        self.same(answer, (int(number), [int(told) for told in row], paper))
        self.assertTrue(possible(depot, days, row) and max(row) <= number and min(row) >= depot.period)
        self.paper(depot, days, depot.period, number - 1, paper)
        return number

    def least_spread(self, depot, days):
        answer = spread(depot, days)
        number, row, papers = answer
        self.same(answer, (int(number), [int(told) for told in row], list(papers)))
        self.assertTrue(possible(depot, days, row) and min(row) >= depot.period)
        self.assertEqual(max(row) - min(row), number)
        n, total = depot.size, depot.quota * days
        middle = total // n
        lows = [low for low in range(middle - number - 2, middle + number + 3)
                if n * low <= total <= n * (low + number - 1)]
        self.same([low for low, _ in papers], lows if number > 0 else [])
        for pair in papers:
            self.same(pair, (pair[0], pair[1]))
            self.paper(depot, days, pair[0], pair[0] + number - 1, pair[1])
        return number

    def test_small_depots(self):
        spreads = set()
        for depot in small_depots((1, 2, 3), (1, 2), (1, 2, 3)):
            least = 3 * depot.period * depot.size
            for days in range(least, least + depot.period):
                rows = list(rows_from_the_period(depot, days))
                self.assertEqual(self.most(depot, days), max(map(min, rows)))
                self.assertEqual(self.cap(depot, days), min(map(max, rows)))
                number = self.least_spread(depot, days)
                self.assertEqual(number, min(max(row) - min(row) for row in rows))
                spreads.add(number)
        self.assertTrue({0, 1, 2} <= spreads)

    def test_greater_depots(self):
        dice = new_dice(1)
        for _ in range(150):
            depot = random_depot(dice)
            days = enough_days(dice, depot)
            mean = depot.quota * days // depot.size
            self.assertTrue(mean - depot.period <= self.most(depot, days) <= mean)
            self.assertTrue(mean <= self.cap(depot, days) <= mean + depot.period + 1)

    def test_spread_of_greater_depots(self):
        dice = new_dice(2)
        spreads = set()
        for _ in range(100):
            depot = random_depot(dice, most_period=6, most_drivers=8)
            spreads.add(self.least_spread(depot, enough_days(dice, depot)))
        self.assertTrue({0, 1, 2, 3} <= spreads, spreads)

    def test_known_answers(self):
        depot = Depot(3, 1, [1, 1, 2, 3])
        self.same(most_for_all(depot, 36)[:2], (9, [9, 9, 9, 9]))
        self.same(cap_for_all(depot=depot, days=36)[:2], (9, [9, 9, 9, 9]))
        self.same(spread(depot=depot, days=36), (0, [9, 9, 9, 9], []))
        self.assertEqual(self.most(Depot(3, 2, [1, 1]), 18), 18)
        self.same(most_for_all(depot=Depot(3, 2, [1, 1]), days=FAR)[:2], (FAR, [FAR, FAR]))
        self.same(cap_for_all(Depot(3, 2, [1, 1]), FAR)[:2], (FAR, [FAR, FAR]))
        self.same(spread(Depot(1, 1, [1, 1, 1]), 10)[0], 1)
        self.same(spread(Depot(1, 1, [1, 1, 1]), 10)[2], [])
        self.assertEqual(self.least_spread(Depot(2, 1, [1, 2, 2]), 20), 1)

    def test_days(self):
        for depot in (Depot(3, 1, [1, 1, 2, 3]), Depot(1, 1, [1]), Depot(6, 2, [1, 1, 2, 3, 4, 5, 6, 6])):
            least = 3 * depot.period * depot.size
            self.most(depot, least)
            self.cap(depot, least)
            self.least_spread(depot, least)
            for call in (most_for_all, cap_for_all, spread):
                for days in (least - 1, 0, -1, -FAR, FAR + 1):
                    self.refused(OutOfRange, days, "days", call, depot, days)

    def test_limits_of_spread(self):
        self.least_spread(Depot(6, 3, [1] * 8), 1000)
        for many in (9, 12):
            for period in (1, 6, 7, 8):
                for days in (-1, 0, 1000, FAR + 1):
                    self.refused(OutOfRange, many, "drivers", spread, Depot(period, 1, [1] * many), days)
        for period in (7, 8):
            for days in (-1, 0, 1000, FAR + 1):
                self.refused(OutOfRange, period, "period", spread, Depot(period, 1, [1] * 8), days)

    def test_what_is_returned_may_be_changed(self):
        depot = Depot(3, 1, [1, 1, 3, 3])
        for call in (most_for_all, cap_for_all, spread):
            told = repr(call(depot, 37))
            call(depot, 37)[1].clear()
            self.assertEqual(repr(call(depot, 37)), told)
        spread(depot, 37)[2].clear()
        self.assertEqual(repr(spread(depot, 37)), told)


if __name__ == "__main__":
    unittest.main()
