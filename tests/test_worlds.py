"""Point 39: whether a driver was in the crew of a closing."""

import itertools
import unittest

from outagain.crews import crews_seen
from outagain.depots import Depot
from outagain.errors import BadNotes, BadPasses, NoBook, OutOfRange
from outagain.judging import judge
from outagain.notes import fits
from outagain.walking import walk
from outagain.worlds import asked
from tests.inspecting import Case, agreeing_worlds, crew_at, drawn_closings, drawn_notes, passes_of_small_depots
from tests.support import FAR, PromiseTest, new_dice, random_book, random_depot

DEPOT = Depot(3, 1, [1, 1, 2, 3])


class AskedTest(PromiseTest):
    def answered(self, depot, days, passes, notes, closing, driver):
        """The answer has the right form, and its paper or its crews hold."""
        answer = self.untouched(asked, depot, days, passes, notes, closing, driver)
        told = [tuple(note) for note in notes]
        if answer[0] == "none":
            self.same(answer, ("none", fits(depot, days, passes, notes)))
            self.assertNotEqual(answer[1][0], "fits")
            self.assertTrue(Case(depot, days, passes, told).stands(answer[1]))
        elif answer[0] == "open":
            word, crews, others = answer
            self.same(answer, ("open", [(int(times), tuple(crew)) for times, crew in crews],
                               [(int(times), tuple(crew)) for times, crew in others]))
            case = Case(depot, days, passes, told)
            self.assertTrue(case.good(crews) and case.good(others))
            self.assertIn(driver, crew_at(crews, closing))
            self.assertNotIn(driver, crew_at(others, closing))
        else:
            self.assertIn(answer[0], ("always", "never"))
            self.assertEqual(len(answer), 2)
            case = Case(depot, days, passes, told + [(closing, driver, answer[0] == "never")])
            self.assertNotEqual(answer[1][0], "fits")
            self.assertTrue(case.stands(answer[1]))
            if case.clash():
                self.same(answer[1], case.clash())
        return answer

    def test_all_books_of_small_depots(self):
        dice = new_dice(80)
        words = {}
        for depot, days, passes, worlds in passes_of_small_depots(dice, (1, 2, 3), 2):
            closings = days // depot.period
            single = list(itertools.product(range(1, closings + 1), range(depot.size), (True, False)))
            drawn = [dice.sample(single, min(len(single), many)) for many in (0, 1, 1, 2, 3)]
            for notes, (closing, driver, _) in itertools.product(drawn, single[::2]):
                if dice.random() < 0.4:
                    continue
                answer = self.answered(depot, days, passes, notes, closing, driver)
                found = {driver in crews[closing - 1] for crews in agreeing_worlds(worlds, notes)}
                expected = {(): "none", (True,): "always", (False,): "never"}.get(tuple(found), "open")
                self.assertEqual(answer[0], expected, (depot.firsts, days, passes, notes, closing, driver))
                words[answer[0]] = words.get(answer[0], 0) + 1
        self.assertTrue(all(words[word] > 50 for word in ("none", "always", "never", "open")), words)

    def test_greater_depots(self):
        dice = new_dice(81)
        words = {}
        for _ in range(250):
            depot = random_depot(dice)
            book = random_book(dice, depot, dice.randint(1, 9), dice.choice([3, 9, FAR // 9]))
            closings = book.days // depot.period
            if not closings:
                continue
            drawn = drawn_closings(dice, closings)
            wrong = dice.choice([0, 0, 0.1])
            notes = drawn_notes(dice, depot, crews_seen(depot, book), drawn, dice.randint(0, 40), wrong)
            passes = walk(depot, book).passes
            closing = dice.choice([*drawn, 1, closings, dice.randint(1, closings)])
            driver = dice.randrange(depot.size)
            answer = self.answered(depot, book.days, passes, notes, closing, driver)
            fitting = fits(depot, book.days, passes, notes)[0] == "fits"
            self.assertEqual(answer[0] == "none", not fitting)
            words[answer[0]] = words.get(answer[0], 0) + 1
        self.assertTrue(all(words[word] > 9 for word in ("none", "always", "never", "open")), words)

    def test_a_closing_beside_the_six_and_forty_notes(self):
        depot = Depot(1, 1, [1, 1, 1])
        notes = [(closing, 0, True) for closing in (1, 3, 5, 7, 9, 11)]
        self.assertEqual(self.answered(depot, 20, [10, 5, 5], notes, 2, 1)[0], "open")
        self.assertEqual(self.answered(depot, 20, [10, 5, 5], notes, 20, 0)[0], "open")
        self.assertEqual(self.answered(depot, 20, [6, 7, 7], notes, 2, 0)[0], "never")
        self.assertEqual(self.answered(depot, 20, [20, 0, 0], notes, 2, 0)[0], "always")
        self.assertEqual(self.answered(depot, 20, [5, 8, 7], notes, 2, 0)[0], "none")
        many = (notes * 7)[:40]
        self.assertEqual(self.answered(depot, 20, [10, 5, 5], many, 2, 1)[0], "open")
        self.assertEqual(self.answered(depot, 20, [10, 5, 5], many, 3, 0)[0], "always")
        dice = new_dice(82)
        for _ in range(30):
            depot = random_depot(dice)
            book = random_book(dice, depot, 9, dice.choice([9, FAR // 9]))
            closings = book.days // depot.period
            if closings < 8:
                continue
            crews = crews_seen(depot, book)
            six = dice.sample(range(1, min(closings, 60)), 6)
            notes = [drawn_notes(dice, depot, crews, [closing], 1, 0)[0] for closing in six]
            others = [closing for closing in (1, closings, closings // 2) if closing not in six]
            for closing in others:
                answer = self.answered(depot, book.days, walk(depot, book).passes, notes, closing, 0)
                self.assertNotEqual(answer[0], "none")

    def test_a_closing_that_is_noted(self):
        passes = [1, 2, 2, 2]
        notes = [(1, 2, True), (2, 0, False)]
        self.same(asked(DEPOT, 7, passes, notes, 1, 2), ("always", ("clash", 1, 2)))
        self.same(asked(DEPOT, 7, passes, notes, 2, 0), ("never", ("clash", 2, 0)))
        self.assertEqual(self.answered(DEPOT, 7, passes, notes, 1, 3)[0], "never")
        self.assertEqual(self.answered(DEPOT, 7, passes, notes, 2, 3)[0], "always")
        self.same(asked(DEPOT, 7, passes, [], 2, 1), ("never", ("clash", 2, 1)))

    def test_far(self):
        days = 3 * 10 ** 20
        passes = [10 ** 20 * 3 - 3, 0, 3, 0]
        for closing in (1, 5, 10 ** 20 - 1):
            self.assertEqual(self.answered(DEPOT, days, passes, [], closing, 2)[0], "open")
            self.assertEqual(self.answered(DEPOT, days, passes, [(7, 2, True)], closing, 2)[0], "never")
            self.assertEqual(self.answered(DEPOT, days, passes, [(7, 2, True)], closing, 0)[0], "always")
        self.assertEqual(self.answered(DEPOT, days, passes, [], 10 ** 20, 2)[0], "never")
        self.assertEqual(self.answered(DEPOT, days, passes, [], 10 ** 20, 0)[0], "always")

    def test_kinds_of_arguments(self):
        expected = ("open", [(1, (2,)), (1, (3,))], [(1, (3,)), (1, (2,))])
        answer = asked(depot=DEPOT, days=7, passes=(1, 2, 2, 2), notes=(), closing=1, driver=2)
        self.same(answer, expected)
        answer[1].clear()
        self.same(asked(DEPOT, 7, [1, 2, 2, 2], [], 1, 2), expected)
        self.same(asked(DEPOT, 7, [1, 2, 2, 2], ([1, 2, True],), 1, 2), ("always", ("clash", 1, 2)))


class OrderTest(PromiseTest):
    def test_order_of_the_checks(self):
        bad = [(0, 9, True)] * 41
        for days in (-1, FAR + 1):
            self.refused(OutOfRange, days, "days", asked, DEPOT, days, [-1], bad, 0, 9)
        self.refused(BadPasses, 3, "length", asked, DEPOT, 7, [-1, 0, 0], bad, 0, 9)
        self.refused(BadPasses, 1, "pass", asked, DEPOT, 7, [0, -1, 0, 0], bad, 0, 9)
        self.refused(BadNotes, 40, "notes", asked, DEPOT, 7, [9, 9, 9, 9], bad, 0, 9)
        self.refused(BadNotes, 0, "closing", asked, DEPOT, 7, [9, 9, 9, 9], bad[:40], 0, 9)
        self.refused(BadNotes, 1, "driver", asked, DEPOT, 7, [9, 9, 9, 9], [(1, 2, True), (1, 4, True)], 0, 9)
        seven = [(closing, 0, True) for closing in range(1, 8)]
        self.refused(BadNotes, 6, "closings", asked, DEPOT, 24, [9, 9, 9, 9], seven, 0, 9)
        for closing in (0, 3, -1, FAR):
            self.refused(OutOfRange, closing, "closing", asked, DEPOT, 7, [9, 9, 9, 9], [(1, 2, True)], closing, 9)
        self.refused(OutOfRange, 1, "closing", asked, DEPOT, 2, [9, 9, 9, 9], [], 1, 9)
        for driver in (-1, 4, 12):
            self.refused(OutOfRange, driver, "driver", asked, DEPOT, 7, [9, 9, 9, 9], [(1, 2, True)], 1, driver)
        for passes in ([9, 9, 9, 9], [2, 0, 4, 2], [2, 0, 4, 1]):
            self.no_book(NoBook, judge(DEPOT, 7, passes), asked, DEPOT, 7, passes, [(1, 2, True), (1, 2, False)], 1, 0)


if __name__ == "__main__":
    unittest.main()
