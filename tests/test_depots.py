"""Points 5 and 7 and the depots of the interface."""

import itertools
import unittest

from outagain.depots import Depot
from outagain.errors import BadDepot, OutOfRange
from tests.support import FAR, PromiseTest, new_dice, random_depot, small_depots


class CreatingTest(PromiseTest):
    def test_attributes(self):
        depot = Depot(3, 2, [1, 3, 1, 2, 3])
        self.same((depot.period, depot.quota, depot.firsts), (3, 2, (1, 3, 1, 2, 3)))
        self.same((depot.size, depot.places), (5, (0, 1, 2)))
        self.same(Depot(period=3, quota=1, firsts=(2, 1)).firsts, (2, 1))

    def test_class_values(self):
        self.same((Depot.MOST_PERIOD, Depot.MOST_DRIVERS), (8, 12))

    def test_least_and_greatest(self):
        self.same(Depot(1, 1, [1]).places, (0,))
        self.same(Depot(8, 12, [1] * 12).places, (0,) * 8)
        self.same(Depot(8, 1, [1, 8] + [2] * 10).places, (0, 10, 0, 0, 0, 0, 0, 1))
        self.same(Depot(1, 1, [1] * 12).places, (11,))

    def test_properties_cannot_be_assigned(self):
        depot = Depot(2, 1, [1, 2])
        for name in ("size", "places"):
            self.assertRaises(AttributeError, setattr, depot, name, 1)

    def test_firsts_are_copied(self):
        firsts = [1, 2, 3]
        depot = self.untouched(Depot, 3, 1, firsts)
        firsts[1] = 1
        firsts.append(7)
        self.same((depot.firsts, depot.size, depot.places), ((1, 2, 3), 3, (0, 1, 1)))

    def test_period(self):
        for period in (0, 9, -1, FAR, -FAR):
            self.refused(BadDepot, period, "period", Depot, period, 0, [])
        self.assertEqual(Depot(8, 1, [1]).period, 8)

    def test_quota(self):
        for quota in (0, 13, -1, FAR, -FAR):
            self.refused(BadDepot, quota, "quota", Depot, 3, quota, [])

    def test_drivers(self):
        self.refused(BadDepot, 0, "drivers", Depot, 3, 1, [])
        self.refused(BadDepot, 13, "drivers", Depot, 3, 1, [0] * 13)
        self.refused(BadDepot, 1000, "drivers", Depot, 3, 1, (1,) * 1000)

    def test_first(self):
        self.refused(BadDepot, 1, "first", Depot, 3, 2, [1, 4, 0])
        self.refused(BadDepot, 2, "first", Depot, 3, 1, [2, 3, 0])
        self.refused(BadDepot, 0, "first", Depot, 3, 1, [-FAR])
        self.refused(BadDepot, 11, "first", Depot, 8, 1, [1] * 11 + [FAR])
        self.refused(BadDepot, 0, "first", Depot, 1, 1, [2])

    def test_ones(self):
        self.refused(BadDepot, 0, "ones", Depot, 3, 1, [2, 3])
        self.refused(BadDepot, 2, "ones", Depot, 3, 3, [1, 2, 1])
        self.refused(BadDepot, 11, "ones", Depot, 3, 12, [1] * 11 + [2])
        self.refused(BadDepot, 1, "ones", Depot, 3, 12, [1])
        self.assertEqual(Depot(3, 2, [1, 2, 1]).quota, 2)

    def test_refused_with_a_tuple(self):
        self.refused(BadDepot, 1, "ones", Depot, 3, 2, (1, 2, 3))


class EqualTest(PromiseTest):
    def test_equal(self):
        depot = Depot(3, 1, [1, 2])
        self.assertTrue(depot == Depot(3, 1, (1, 2)))
        self.assertFalse(depot != Depot(3, 1, (1, 2)))
        for other in (Depot(2, 1, [1, 2]), Depot(3, 1, [1, 1]), Depot(3, 1, [1, 2, 1]), Depot(3, 1, [1, 3])):
            self.assertFalse(depot == other)
            self.assertTrue(depot != other)
        self.assertFalse(Depot(3, 1, [1, 1]) == Depot(3, 2, [1, 1]))
        self.assertFalse(Depot(3, 1, [1, 2]) == Depot(3, 1, [2, 1]))

    def test_no_depot(self):
        depot = Depot(3, 1, [1, 2])
        for other in (None, 0, "depot", (3, 1, (1, 2)), [3, 1, [1, 2]], object()):
            self.assertFalse(depot == other)
            self.assertFalse(other == depot)


class CountingTest(PromiseTest):
    def test_weekday_by_counting(self):
        for period in range(1, 9):
            depot = Depot(period, 1, [1])
            weekday = itertools.cycle(range(1, period + 1))
            self.same([depot.weekday(t) for t in range(1, 40)], [next(weekday) for _ in range(1, 40)])

    def test_weekday_far(self):
        depot = Depot(7, 1, [1])
        self.same(depot.weekday(7 * FAR), 7)
        self.same(depot.weekday(7 * FAR + 1), 1)
        for morning in (0, -1, -FAR):
            self.refused(OutOfRange, morning, "morning", depot.weekday, morning)

    def test_days_by_counting(self):
        for depot in small_depots((1, 2, 3), (1, 2), (1, 2, 3, 4)):
            closings = begun = 0
            for days in range(12):
                last = days % depot.period + 1
                due = [depot.firsts.count(c) for c in range(1, depot.period + 1)]
                due[0] -= depot.quota
                self.same(depot.places, tuple(due))
                begins = due[last - 1]
                due[last - 1] += depot.quota
                self.same((depot.closings(days), depot.last_weekday(days)), (closings, last))
                self.same((depot.due_places(days), depot.begun(days)), (tuple(due), begun))
                closings += (days + 1) % depot.period == 0
                begun += begins

    def test_days_far(self):
        dice = new_dice(5)
        for _ in range(50):
            depot = random_depot(dice)
            rounds = dice.randint(0, FAR // depot.period - 1)
            rest = dice.randint(0, depot.period - 1)
            days = rounds * depot.period + rest
            self.same(depot.closings(days), rounds)
            self.same(depot.last_weekday(days), rest + 1)
            self.same(depot.due_places(days), depot.due_places(rest))
            self.same(depot.begun(days), rounds * depot.begun(depot.period) + depot.begun(rest))

    def test_days_at_the_bounds(self):
        depot = Depot(3, 1, [1, 1, 2, 3])
        self.same([depot.closings(0), depot.last_weekday(0), depot.due_places(0), depot.begun(0)],
                  [0, 1, (2, 1, 1), 0])
        self.same([depot.closings(FAR), depot.last_weekday(FAR), depot.due_places(FAR), depot.begun(FAR)],
                  [(FAR - 1) // 3, 2, (1, 2, 1), FAR])
        self.same(Depot(1, 1, [1]).closings(FAR), FAR)
        self.same(Depot(8, 1, [1, 3]).begun(FAR), FAR // 8)

    def test_days_out_of_range(self):
        depot = Depot(3, 1, [1, 1, 2, 3])
        for call in (depot.closings, depot.last_weekday, depot.due_places, depot.begun):
            for days in (-1, FAR + 1, -FAR, FAR * FAR):
                self.refused(OutOfRange, days, "days", call, days)


class FromPlacesTest(PromiseTest):
    def test_firsts_ascend(self):
        self.assertTrue(Depot.from_places(3, 2, [1, 0, 2]) == Depot(3, 2, [1, 1, 1, 3, 3]))
        self.same(Depot.from_places(period=2, quota=1, places=(0, 3)).firsts, (1, 2, 2, 2))
        self.same(Depot.from_places(1, 12, [0]).firsts, (1,) * 12)
        self.same(Depot.from_places(1, 1, [11]).firsts, (1,) * 12)
        self.same(Depot.from_places(8, 1, [0, 1, 0, 2, 0, 0, 0, 8]).firsts, (1, 2, 4, 4) + (8,) * 8)

    def test_back_from_places(self):
        for depot in small_depots((1, 2, 3), (1, 2), (2, 4)):
            again = Depot.from_places(depot.period, depot.quota, list(depot.places))
            self.assertIs(type(again), Depot)
            self.same(again.firsts, tuple(sorted(depot.firsts)))
            self.same((again.places, again.period, again.quota), (depot.places, depot.period, depot.quota))

    def test_places_are_not_changed(self):
        self.untouched(Depot.from_places, 3, 2, [1, 0, 2])

    def test_errors_in_their_order(self):
        make = Depot.from_places
        self.refused(BadDepot, 0, "period", make, 0, 0, [])
        self.refused(BadDepot, 9, "period", make, 9, 13, [-1])
        self.refused(BadDepot, 0, "quota", make, 3, 0, [-1])
        self.refused(BadDepot, 13, "quota", make, 3, 13, [-1])
        self.refused(BadDepot, 0, "places", make, 3, 1, [])
        self.refused(BadDepot, 2, "places", make, 3, 1, [-1, FAR])
        self.refused(BadDepot, 4, "places", make, 3, 1, [1, 1, 1, 1])
        self.refused(BadDepot, 2, "place", make, 3, 1, [FAR, -1, -2])
        self.refused(BadDepot, 1, "place", make, 3, 1, [-FAR, FAR, 12])
        self.refused(BadDepot, 3, "place", make, 3, 12, [5, 5, -10])
        self.refused(BadDepot, 13, "drivers", make, 3, 1, [4, 4, 4])
        self.refused(BadDepot, 13, "drivers", make, 1, 12, [1])
        self.refused(BadDepot, FAR + 13, "drivers", make, 3, 12, [0, FAR, 1])


if __name__ == "__main__":
    unittest.main()
