"""Points 28 and 29: passes within bounds for everybody."""

import unittest

from outagain.bounds import within, within_stands
from outagain.depots import Depot
from outagain.errors import BadBounds, OutOfRange
from outagain.longbooks import book_of_passes
from outagain.walking import walk
from tests.papers import others, rows_from_the_period, stands
from tests.support import FAR, PromiseTest, new_dice, random_book, random_depot, small_depots

WORDS = {"passes", "crowd", "least", "most"}


def numbers_in(value):
    if isinstance(value, (list, tuple)):
        return [number for part in value for number in numbers_in(part)]
    return [value] if isinstance(value, int) else []


def inside(row, lows, highs):
    return all(low <= told <= high for low, told, high in zip(lows, row, highs))


class WithinTest(PromiseTest):
    def answered(self, depot, days, lows, highs):
        """The answer has the right form and stands, and so says within_stands."""
        answer = self.untouched(within, depot, days, lows, highs)
        if answer[0] == "passes":
            self.same(answer, ("passes", [int(told) for told in answer[1]]))
        else:
            self.same(answer, (answer[0], *[tuple(int(number) for number in part) for part in answer[1:]]))
        self.assertTrue(stands(depot, days, lows, highs, answer), (depot.firsts, days, lows, highs, answer))
        self.assertIs(within_stands(depot, days, lows, highs, answer), True)
        self.assertLess(max([abs(number) for number in numbers_in(answer)], default=0), 10 ** 60)
        return answer

    def around(self, dice, row, least):
        """Bounds around a row, some of them missing it by little."""
        slack = [0, 0, 1, 2, 3, 9]
        lows = [max(least, told - dice.choice(slack) + dice.choice([0, 0, 0, 0, 1, 2])) for told in row]
        highs = [told + dice.choice(slack) - dice.choice([0, 0, 0, 0, 1]) for told in row]
        return lows, [max(low, high) for low, high in zip(lows, highs)]

    def test_all_rows_within_the_bounds_of_small_depots(self):
        dice = new_dice(1)
        words = set()
        for depot in small_depots((1, 2, 3), (1, 2), (1, 2, 3)):
            for days in range(3 * depot.period * depot.size, 3 * depot.period * depot.size + depot.period):
                rows = list(rows_from_the_period(depot, days))
                for _ in range(12):
                    lows, highs = self.around(dice, dice.choice(rows), depot.period)
                    answer = self.answered(depot, days, lows, highs)
                    self.assertEqual(answer[0] == "passes", any(inside(row, lows, highs) for row in rows))
                    words.add(answer[0])
        self.assertEqual(words, WORDS)

    def test_bounds_that_pin_one_driver_or_all(self):
        dice = new_dice(2)
        for depot in small_depots((2, 3), (1, 2), (2, 3)):
            days = 3 * depot.period * depot.size + dice.randrange(depot.period)
            rows = list(rows_from_the_period(depot, days))
            for row in dice.sample(rows, min(5, len(rows))):
                self.same(self.answered(depot, days, list(row), list(row)), ("passes", list(row)))
            for value in range(depot.period, days + 2):
                lows = [depot.period] * depot.size
                lows[-1] = value
                highs = [days + 9] * (depot.size - 1) + [value]
                answer = self.answered(depot, days, lows, highs)
                self.assertEqual(answer[0] == "passes", any(row[-1] == value for row in rows))

    def test_one_low_for_all(self):
        for depot in small_depots((2, 3), (1, 2), (2, 3)):
            days = 3 * depot.period * depot.size + 1
            best = max(min(row) for row in rows_from_the_period(depot, days))
            for low in range(depot.period, days + 2):
                answer = self.answered(depot, days, [low] * depot.size, [days + 1] * depot.size)
                self.assertEqual(answer[0] == "passes", low <= best)

    def test_greater_depots(self):
        dice = new_dice(3)
        words = set()
        for _ in range(400):
            depot = random_depot(dice)
            least = 3 * depot.period * depot.size
            days = dice.choice([least, least + dice.randint(0, 99), dice.randint(least, FAR), FAR])
            mean = depot.quota * days // depot.size + dice.choice([-4, -1, 0, 0, 1, 4])
            lows = [max(depot.period, mean - dice.choice([0, 0, 1, 5, 40, mean])) for _ in range(depot.size)]
            highs = [max(low, mean + dice.choice([0, 1, 5, 40, days])) for low in lows]
            words.add(self.answered(depot, days, lows, highs)[0])
        self.assertEqual(words, WORDS)

    def test_around_passes_of_books(self):
        dice = new_dice(4)
        words = set()
        for _ in range(200):
            depot = random_depot(dice)
            most = dice.choice([40, FAR // 40])
            book = random_book(dice, depot, 40, most)
            row = list(walk(depot, book).passes)
            if min(row) < depot.period or book.days < 3 * depot.period * depot.size:
                continue
            self.same(self.answered(depot, book.days, row, row), ("passes", row))
            lows, highs = self.around(dice, row, depot.period)
            words.add(self.answered(depot, book.days, lows, highs)[0])
            lows = [max(depot.period, told - dice.randint(0, told)) for told in row]
            highs = [told + dice.randint(0, book.days) for told in row]
            answer = self.answered(depot, book.days, lows, highs)
            self.assertEqual(answer[0], "passes")
            self.same(walk(depot, book_of_passes(depot, book.days, answer[1])).passes, tuple(answer[1]))
        self.assertEqual(words, WORDS)

    def test_highs_above_the_days(self):
        depot = Depot(3, 1, [1, 1, 2, 3])
        for high in (FAR, FAR + 1, FAR ** 3):
            self.assertEqual(self.answered(depot, FAR, [3] * 4, [high] * 4)[0], "passes")
            self.assertEqual(self.answered(depot, 36, [28, 3, 3, 3], [high] * 4)[0], "least")
            self.assertEqual(self.answered(depot, 36, [high] * 4, [high] * 4)[0], "crowd")

    def test_each_kind_of_answer(self):
        depot = Depot(3, 1, [1, 1, 2, 3])
        self.same(within(depot, 36, [9, 9, 9, 9], [9, 9, 9, 9]), ("passes", [9, 9, 9, 9]))
        self.assertEqual(self.answered(depot, 36, [10, 9, 9, 9], [12, 12, 12, 12])[0], "least")
        self.assertEqual(self.answered(depot, 37, [9, 9, 9, 9], [9, 9, 10, 9]), ("crowd", (0, 1), (1,)))
        self.assertEqual(self.answered(depot, 36, [3, 3, 3, 3], [6, 9, 9, 9])[0], "most")
        self.assertEqual(self.answered(depot, 36, [3, 3, 37, 3], [90, 90, 90, 90]), ("crowd", (2,), ()))
        self.assertEqual(self.answered(depot, FAR, [FAR, 3, 3, 3], [FAR] * 4)[0], "least")
        self.same(within(depot=depot, days=36, lows=(9, 9, 9, 9), highs=(9, 9, 9, 9)), ("passes", [9, 9, 9, 9]))

    def test_days(self):
        for depot in (Depot(3, 1, [1, 1, 2, 3]), Depot(1, 1, [1]), Depot(8, 3, [1] * 12)):
            least = 3 * depot.period * depot.size
            lows, highs = [depot.period] * depot.size, [FAR] * depot.size
            for days in (least, least + 1, FAR):
                self.assertEqual(self.answered(depot, days, lows, highs)[0], "passes")
            for days in (least - 1, 0, -1, FAR + 1):
                self.refused(OutOfRange, days, "days", within, depot, days, lows, highs)
                self.refused(OutOfRange, days, "days", within_stands, depot, days, lows, highs, ())


class StandsTest(PromiseTest):
    def asked(self, depot, days, lows, highs, answer):
        for other in [answer, *others(depot, answer)]:
            self.assertIs(self.untouched(within_stands, depot, days, lows, highs, other),
                          stands(depot, days, lows, highs, other), (depot.firsts, days, lows, highs, other))

    def test_answers_and_changed_answers(self):
        dice = new_dice(5)
        words = set()
        for _ in range(120):
            depot = random_depot(dice, most_drivers=7)
            least = 3 * depot.period * depot.size
            days = dice.choice([least, least + dice.randint(0, 9), FAR])
            mean = depot.quota * days // depot.size + dice.choice([-4, -1, 0, 0, 1, 4])
            lows = [max(depot.period, mean - dice.choice([0, 0, 1, 2, 5])) for _ in range(depot.size)]
            highs = [max(low, mean + dice.choice([0, 1, 2, 5])) for low in lows]
            answer = within(depot, days, lows, highs)
            words.add(answer[0])
            self.asked(depot, days, lows, highs, answer)
        self.assertEqual(words, WORDS)

    def test_crowds(self):
        depot = Depot(3, 1, [1, 1, 2, 3])
        lows, highs = [9, 9, 9, 9], [9, 9, 10, 9]
        for crowd in (((0, 1), (1,)), ((0, 1, 3), (1, 3)), ((0, 1), (1, 2)), ((0,), (1,)), ((0, 1), ()), ((), ()),
                      ((2,), (2,)), ((2,), (2, 3)), ((0, 1, 2, 3), (1, 2, 3)), ((1, 0), (1,)), ((0, 0, 1), (1,)),
                      ((0, 1), (1, 1)), ((0, 1, 4), (1,)), ((-1, 0, 1), (1,)), ((0, 1), (0, 1)), ((0, 1), (1, 4))):
            self.asked(depot, 37, lows, highs, ("crowd", *crowd))
        self.assertIs(within_stands(depot, 37, lows, highs, ("crowd", (0, 1), (1,))), True)
        self.assertIs(within_stands(depot, 36, lows, highs, ("crowd", (0, 1), (1,))), False)
        self.assertIs(within_stands(depot, 36, [40] * 4, [40] * 4, ("crowd", (2,), ())), True)

    def test_rows(self):
        depot = Depot(3, 1, [1, 1, 2, 3])
        for row in ([9, 9, 9, 9], [10, 8, 9, 9], [9, 9, 9, 10], [9, 9, 9], [9, 9, 9, 9, 0], [], [36, 0, 0, 0],
                    [9, 9, 9, -9], [0, 0, 0, 36], [9, 9, 9, 12], [12, 9, 9, 6]):
            for form in (list, tuple):
                self.asked(depot, 36, [6, 6, 6, 6], [12, 9, 9, 9], ("passes", form(row)))
        self.assertIs(within_stands(depot, 36, [6] * 4, [12, 9, 9, 9], ("passes", [12, 9, 9, 6])), True)
        self.assertIs(within_stands(depot, 36, [6] * 4, [11, 9, 9, 9], ("passes", [12, 9, 9, 6])), False)
        self.assertIs(within_stands(depot, 36, [6, 6, 6, 7], [12] * 4, ("passes", [12, 9, 9, 6])), False)
        self.assertIs(within_stands(depot, 36, [3] * 4, [12] * 4, ("passes", [12, 9, 9, 7])), False)

    def test_prices_of_any_length(self):
        depot = Depot(1, 1, [1, 1])
        self.assertIs(within_stands(depot, 6, [4, 4], [6, 6], ("least", (5, 5), (0,))), True)
        answer = ("least", (5 - 10 ** 200, 5 - 10 ** 200), (10 ** 200,))
        self.assertIs(within_stands(depot, 6, [4, 4], [6, 6], answer), True)
        self.assertIs(within_stands(depot, 6, [4, 4], [6, 6], ("least", (4, 4), (0,))), False)
        self.assertIs(within_stands(depot, 6, [4, 4], [6, 6], ("least", (6, 4), (0,))), False)
        self.assertIs(within_stands(depot, 6, [1, 1], [2, 2], ("most", (3, 3), (0,))), True)
        self.assertIs(within_stands(depot, 6, [1, 1], [2, 2], ("most", (4, 4), (0,))), False)
        self.assertIs(within_stands(depot, 6, [1, 1], [2, 2], ("most", (2, 4), (0,))), False)

    def test_weekdays_without_possible_marks_are_free(self):
        depot = Depot(3, 1, [1, 1, 2, 3])
        answer = ("least", (-FAR, -FAR, -FAR, -FAR), (FAR + 40, FAR + 41, FAR + 42))
        self.assertIs(within_stands(depot, 36, [40] * 4, [40] * 4, answer), True)
        self.assertIs(stands(depot, 36, [40] * 4, [40] * 4, answer), True)


class WrongArgumentsTest(PromiseTest):
    depot = Depot(3, 1, [1, 1, 2, 3])

    def each(self, kind, at, code, *args):
        self.refused(kind, at, code, within, *args)
        self.refused(kind, at, code, within_stands, *args, ("passes", [9, 9, 9, 9]))

    def test_lows(self):
        for many in (0, 3, 5):
            self.each(BadBounds, many, "length", self.depot, 36, [0] * many, [0])
        self.each(BadBounds, 0, "low", self.depot, 36, [2, 1, 9, 9], [1])
        self.each(BadBounds, 3, "low", self.depot, 36, (3, 3, 3, -1), (0, 0, 0, 0))
        self.each(BadBounds, 1, "low", self.depot, FAR, [FAR, 0, 0, 0], [0, 0, 0, 0])

    def test_highs(self):
        for many in (0, 3, 5):
            self.each(BadBounds, many, "length", self.depot, 36, [3] * 4, [0] * many)
        self.each(BadBounds, 0, "high", self.depot, 36, [9, 9, 9, 9], [8, 8, 8, 8])
        self.each(BadBounds, 2, "high", self.depot, 36, (9, 9, 9, 9), (9, 9, 8, 1))
        self.each(BadBounds, 3, "high", self.depot, 36, [9, 9, 9, 9], [9, 9, 9, -9])

    def test_order(self):
        for days in (-1, 35, FAR + 1):
            self.each(OutOfRange, days, "days", self.depot, days, [1], [0])
        self.each(BadBounds, 3, "length", self.depot, 36, [1] * 3, [0] * 5)
        self.each(BadBounds, 3, "low", self.depot, 36, [9, 9, 9, 1], [0, 0])

    def test_what_is_returned_may_be_changed(self):
        lows, highs = [9, 9, 9, 9], [9, 9, 9, 9]
        within(self.depot, 36, lows, highs)[1].clear()
        self.same((lows, highs), ([9, 9, 9, 9], [9, 9, 9, 9]))
        self.same(within(self.depot, 36, lows, highs), ("passes", [9, 9, 9, 9]))


if __name__ == "__main__":
    unittest.main()
