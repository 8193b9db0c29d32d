"""The dealing with the least sum of costs that the answers of point 29 rest on."""

import itertools
import unittest

from outagain.assigning import deal_at_least_cost, prices_and_tolls
from tests.support import PromiseTest, new_dice


class DealingTest(PromiseTest):
    def best(self, costs, cells):
        """The least sum, found by trying all dealings; None if there is none."""
        sums = [sum(row[c] for row, c in zip(costs, dealt)) for dealt in itertools.permutations(cells)
                if all(c in row for row, c in zip(costs, dealt))]
        return min(sums, default=None)

    def compared(self, costs, rooms):
        cells = [c for c, room in enumerate(rooms, 1) for _ in range(room)]
        best = self.best(costs, cells)
        told, *rest = deal_at_least_cost(costs, rooms)
        if best is None:
            self.assertEqual(told, "crowd")
            self.crowded(costs, rooms, *rest)
        else:
            self.assertEqual(told, "dealt")
            self.assertEqual(sorted(rest[0]), cells)
            self.assertEqual(sum(row[c] for row, c in zip(costs, rest[0])), best)
            self.priced(costs, rooms, rest[0], best)

    def crowded(self, costs, rooms, drivers, weekdays):
        self.same((drivers, weekdays), (tuple(sorted(set(drivers))), tuple(sorted(set(weekdays)))))
        self.assertTrue(all(c in weekdays for driver in drivers for c in costs[driver]))
        self.assertGreater(len(drivers), sum(rooms[c - 1] for c in weekdays))

    def priced(self, costs, rooms, dealt, best):
        prices, tolls = prices_and_tolls(costs, dealt, len(rooms))
        for price, row in zip(prices, costs):
            self.assertTrue(all(price + tolls[c - 1] <= cost for c, cost in row.items()))
        self.assertEqual(sum(prices) + sum(toll * room for toll, room in zip(tolls, rooms)), best)

    def test_all_dealings(self):
        dice = new_dice(1)
        for _ in range(800):
            period, size = dice.randint(1, 5), dice.randint(1, 6)
            cells = [dice.randint(1, period) for _ in range(size)]
            share = dice.choice([0.6, 0.9, 1])
            costs = [{c: dice.randint(-9, 9) for c in range(1, period + 1) if dice.random() < share}
                     for _ in range(size)]
            self.compared(costs, [cells.count(c) for c in range(1, period + 1)])


if __name__ == "__main__":
    unittest.main()
