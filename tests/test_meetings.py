"""Point 21: meetings."""

import itertools
import unittest

from outagain.depots import Depot
from outagain.errors import BadWish, OutOfRange
from outagain.meetings import meeting
from outagain.wishes import book_of_wish, reach
from outagain.walking import walk
from tests.counting import weekdays, worlds
from tests.support import PromiseTest, new_dice, random_depot, small_depots


def first_meeting(dues, drivers, home):
    """The pair (days, weekday) of the first meeting in the due weekdays of all books, or None."""
    for days, rows in enumerate(dues):
        found = [due[drivers[0]] for due, last in rows if len({due[i] for i in drivers}) == 1
                 and (not home or due[drivers[0]] == last)]
        if found:
            return days, min(found)
    return None


def all_dues(depot, most_days):
    """For each number of days from 0 on, the pairs (due weekdays, last weekday) of all books."""
    return [{(weekdays(depot.period, nexts), days % depot.period + 1) for nexts, _ in found}
            for days, found in enumerate(worlds(depot.period, depot.quota, depot.firsts, most_days))]


class MeetingTest(PromiseTest):
    def checked(self, depot, drivers, home):
        """The answer has the right form, and a book leads to its due weekdays."""
        answer = meeting(depot, *drivers, home=home)
        greatest = depot.quota + max(depot.places)
        if len(drivers) > greatest:
            self.same(answer, ("never", greatest))
            return answer
        word, days, weekday, due = answer
        self.same(answer, ("least", int(days), int(weekday), [int(c) for c in due]))
        self.assertEqual([due[i] for i in drivers], [weekday] * len(drivers))
        self.assertTrue(not home or weekday == days % depot.period + 1)
        self.same(walk(depot, book_of_wish(depot, days, due)).due(), tuple(due))
        return answer

    def test_small_depots(self):
        kinds = set()
        for depot in small_depots((1, 2, 3), (1, 2), (1, 2, 3)):
            dues = all_dues(depot, 9)
            for many in range(1, depot.size + 1):
                for drivers in itertools.permutations(range(depot.size), many):
                    for home in (False, True):
                        answer = self.checked(depot, drivers, home)
                        self.assertEqual(answer[1:3] if answer[0] == "least" else None,
                                         first_meeting(dues, drivers, home))
                        kinds.add((answer[0], home))
        self.assertEqual(len(kinds), 4)

    def test_four_drivers(self):
        for depot in small_depots((2, 3, 4), (1, 2), (4,)):
            dues = all_dues(depot, 9)
            for drivers in ((0,), (1, 0), (0, 3), (3, 1, 2), (0, 1, 2, 3)):
                for home in (False, True):
                    answer = self.checked(depot, drivers, home)
                    found = first_meeting(dues, drivers, home)
                    if answer[0] == "never" or found is None:
                        self.assertTrue(found is None and (answer[0] == "never" or answer[1] > 9))
                    else:
                        self.assertEqual(answer[1:3], found)

    def test_greater_depots(self):
        dice = new_dice(1)
        for _ in range(100):
            depot = random_depot(dice)
            drivers = dice.sample(range(depot.size), dice.randint(1, depot.size))
            for home in (False, True):
                answer = self.checked(depot, drivers, home)
                if answer[0] == "least":
                    self.none_earlier(depot, drivers, home, *answer[1:3])

    def none_earlier(self, depot, drivers, home, days, weekday):
        for earlier in range(days + 1):
            for c in range(1, depot.period + 1):
                wish = [c if i in drivers else 0 for i in range(depot.size)]
                if (earlier, c) < (days, weekday) and (not home or c == earlier % depot.period + 1):
                    self.assertNotEqual(reach(depot, earlier, wish)[0], "reached")

    def test_all_drivers(self):
        self.same(meeting(Depot(1, 1, [1, 1, 1]), 0, 1, 2), ("least", 0, 1, [1, 1, 1]))
        self.same(meeting(Depot(3, 2, [1, 1]), 1, 0), ("least", 0, 1, [1, 1]))
        self.same(meeting(Depot(8, 1, [1, 8]), 0, 1, home=True), ("least", 7, 8, [8, 8]))
        self.same(meeting(Depot(8, 1, [1, 8]), 0, 1), ("least", 7, 8, [8, 8]))
        self.same(meeting(Depot(8, 1, [1] + [8] * 11), *range(12)), ("least", 7, 8, [8] * 12))
        self.same(meeting(Depot(8, 12, [1] * 12), *range(12), home=True), ("least", 0, 1, [1] * 12))

    def test_one_driver(self):
        depot = Depot(3, 1, [1, 1, 2, 3])
        self.same(meeting(depot, 3)[:3], ("least", 0, 3))
        self.same(meeting(depot, 3, home=True)[:3], ("least", 2, 3))
        self.same(meeting(depot, 0, home=True)[:3], ("least", 0, 1))
        self.same(meeting(depot, 0)[:3], ("least", 0, 1))

    def test_never(self):
        depot = Depot(3, 1, [1, 1, 2, 3])
        self.same(meeting(depot, 3, 1, 0), ("never", 2))
        self.same(meeting(depot, 3, 1, 0, 2, home=True), ("never", 2))
        self.same(meeting(Depot(2, 2, [1, 1, 2, 2, 2, 1]), 0, 1, 2, 3, 4, 5), ("never", 5))

    def test_home_by_its_name_alone(self):
        depot = Depot(3, 1, [1, 1, 2, 3])
        self.same(meeting(depot, 2, 3, home=False)[:3], ("least", 2, 3))
        self.same(meeting(depot, 0, 1)[:3], ("least", 0, 1))

    def test_wrong_drivers(self):
        depot = Depot(3, 1, [1, 1, 2, 3])
        for home in (False, True):
            def call(*drivers):
                return meeting(depot, *drivers, home=home)
            self.refused(BadWish, 0, "none", call)
            for driver in (-1, 4, 12, 10 ** 30):
                self.refused(OutOfRange, driver, "driver", call, driver)
                self.refused(OutOfRange, driver, "driver", call, 0, 1, driver, driver)
            self.refused(BadWish, 1, "twice", call, 2, 2)
            self.refused(BadWish, 2, "twice", call, 0, 3, 0, 3, 9)
            self.refused(BadWish, 4, "twice", call, 0, 1, 2, 3, 3, 3)
            self.refused(OutOfRange, 4, "driver", call, 0, 1, 4, 0)
            self.refused(OutOfRange, -1, "driver", call, 1, -1, 1)

    def test_what_is_returned_may_be_changed(self):
        depot = Depot(3, 1, [1, 1, 2, 3])
        due = meeting(depot, 2, 3)[3]
        told = list(due)
        due.clear()
        self.same(meeting(depot, 2, 3)[3], told)


if __name__ == "__main__":
    unittest.main()
