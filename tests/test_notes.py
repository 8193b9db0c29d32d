"""Points 37, 38 and 40: whether notes of an inspector fit passes."""

import itertools
import unittest

from outagain.crews import crews_seen
from outagain.deadlines import book_of_crews
from outagain.depots import Depot
from outagain.errors import BadNotes, BadPasses, NoBook, OutOfRange
from outagain.judging import due_of, judge
from outagain.notes import agreeing, fits, fits_stands
from outagain.seating import seat
from outagain.walking import walk
from tests.inspecting import (Case, agreeing_worlds, changed_answers, drawn_closings, drawn_notes,
                              passes_of_small_depots)
from tests.support import FAR, PromiseTest, new_dice, random_book, random_depot

DEPOT = Depot(3, 1, [1, 1, 2, 3])


class NotesTest(PromiseTest):
    def answered(self, depot, days, passes, notes):
        """The answer has the right form and holds, and so says fits_stands."""
        answer = self.untouched(fits, depot, days, passes, notes)
        case = Case(depot, days, passes, notes)
        self.assertTrue(case.stands(answer), (depot.period, depot.quota, depot.firsts, days, passes, notes, answer))
        self.assertIs(self.untouched(fits_stands, depot, days, passes, notes, answer), True)
        if answer[0] == "fits":
            self.same(answer, ("fits", [(int(times), tuple(crew)) for times, crew in answer[1]]))
            book = book_of_crews(depot, days, due_of(depot, passes), answer[1])
            self.same(walk(depot, book).passes, tuple(passes))
            self.same((book.days, crews_seen(depot, book)), (days, answer[1]))
        elif answer[0] == "not":
            self.same(answer, ("not", tuple(int(driver) for driver in answer[1])))
        else:
            self.same(answer, case.clash())
        return answer


class FitsTest(NotesTest):
    def test_all_pairs_of_notes_and_all_books_of_small_depots(self):
        dice = new_dice(70)
        words = set()
        for depot, days, passes, worlds in passes_of_small_depots(dice, (1, 2, 3), 2):
            closings = range(1, days // depot.period + 1)
            single = list(itertools.product(closings, range(depot.size), (True, False)))
            drawn = list(itertools.combinations_with_replacement(single, 2))
            for notes in [(), *[(note,) for note in single], *dice.sample(drawn, min(len(drawn), 25))]:
                answer = self.answered(depot, days, passes, list(notes))
                self.assertEqual(answer[0] == "fits", bool(agreeing_worlds(worlds, notes)), (depot.firsts, days, notes))
                words.add(answer[0])
        self.assertEqual(words, {"fits", "clash", "not"})

    def test_drawn_notes_and_all_books_of_small_depots(self):
        dice = new_dice(71)
        words = set()
        for depot, days, passes, worlds in passes_of_small_depots(dice, (2, 3, 4), 2):
            closings = days // depot.period
            if not closings or dice.random() < 0.6:
                continue
            for _ in range(6):
                rows = [(1, crew) for crew in dice.choice(sorted(worlds))]
                notes = drawn_notes(dice, depot, rows, range(1, closings + 1), dice.randint(2, 8), 0.1)
                answer = self.answered(depot, days, passes, notes)
                self.assertEqual(answer[0] == "fits", bool(agreeing_worlds(worlds, notes)))
                words.add(answer[0])
        self.assertEqual(words, {"fits", "clash", "not"})

    def test_greater_depots(self):
        dice = new_dice(72)
        words = {}
        for _ in range(400):
            depot = random_depot(dice)
            book = random_book(dice, depot, dice.randint(1, 12), dice.choice([3, 20, FAR // 12]))
            closings = book.days // depot.period
            if not closings:
                continue
            crews = crews_seen(depot, book)
            drawn = drawn_closings(dice, closings)
            wrong = dice.choice([0, 0, 0.02, 0.1, 0.3])
            notes = drawn_notes(dice, depot, crews, drawn, dice.randint(0, 40), wrong)
            answer = self.answered(depot, book.days, walk(depot, book).passes, notes)
            if wrong == 0:
                self.assertEqual(answer[0], "fits")
            words[answer[0]] = words.get(answer[0], 0) + 1
        self.assertTrue(all(words[word] > 9 for word in ("fits", "clash", "not")), words)

    def test_no_set_of_drivers_is_short_where_notes_fit(self):
        dice = new_dice(73)
        words = set()
        for _ in range(150):
            depot = random_depot(dice, most_drivers=7)
            book = random_book(dice, depot, 8, dice.choice([4, 9]))
            closings = book.days // depot.period
            if not closings:
                continue
            notes = drawn_notes(dice, depot, crews_seen(depot, book), drawn_closings(dice, closings), 12, 0.04)
            passes = walk(depot, book).passes
            answer = self.answered(depot, book.days, passes, notes)
            case = Case(depot, book.days, passes, notes)
            self.assertEqual(answer[0] == "fits", not case.clash() and not case.any_short())
            words.add(answer[0])
        self.assertEqual(words, {"fits", "clash", "not"})

    def test_greatest_numbers_of_rows(self):
        """Crews of 12 drivers who all come, cut by 6 closings that are noted."""
        depot = Depot(2, 6, [1] * 6 + [2] * 6)
        passes = [FAR // 2 + 10 ** 28 * by for by in (-6, 5, -4, 3, -2, 1, -1, 2, -3, 4, -5, 6)]
        self.assertEqual(judge(depot, FAR, passes), ("possible",))
        most = 0
        for first, seen in itertools.product((2, 10 ** 28 + 7, 7 * 10 ** 28), (True, False)):
            closings = [first + at * 10 ** 28 // 2 for at in range(6)]
            notes = [(closing, at, seen) for at, closing in enumerate(closings)]
            answer = self.answered(depot, FAR, passes, notes)
            self.assertEqual(answer[0], "fits")
            most = max(most, len(answer[1]))
        self.assertGreater(most, 20)

    def test_far_apart_closings(self):
        depot = DEPOT
        passes = [10 ** 20 * 3 - 3, 0, 3, 0]
        days = 3 * 10 ** 20
        for closing in (1, 2, 10 ** 10, 10 ** 20 - 1, 10 ** 20):
            last = closing == 10 ** 20
            self.assertEqual(self.answered(depot, days, passes, [(closing, 2, True)])[0], "clash" if last else "fits")
            self.assertEqual(self.answered(depot, days, passes, [(closing, 2, True), (1, 0, True)])[0],
                             "clash" if last else "not" if closing == 1 else "fits")
            self.assertEqual(self.answered(depot, days, passes, [(closing, 1, True)])[0], "not")
        notes = [(closing, 0, True) for closing in (1, 5, 10 ** 20 - 5, 10 ** 20)]
        self.assertEqual(self.answered(depot, days, passes, notes)[0], "fits")
        self.same(fits(depot, days, passes, []), self.answered(depot, days, passes, []))

    def test_days_without_a_closing(self):
        for days, passes in ((0, [0, 0, 0, 0]), (1, [0, 1, 0, 0]), (2, [2, 0, 0, 0])):
            self.same(self.answered(DEPOT, days, passes, []), ("fits", []))
            self.same(agreeing(DEPOT, days, passes, []), (0, None))
            self.refused(BadNotes, 0, "closing", fits, DEPOT, days, passes, [(1, 0, True)])

    def test_notes_twice_and_against_each_other(self):
        passes = [1, 2, 2, 2]
        self.same(fits(DEPOT, 7, passes, [(1, 2, True)] * 40), ("fits", [(1, (2,)), (1, (3,))]))
        self.same(fits(DEPOT, 7, passes, [(1, 2, False)] * 40), ("fits", [(1, (3,)), (1, (2,))]))
        self.same(fits(DEPOT, 7, passes, [(2, 3, True), (2, 3, False)]), ("clash", 2, 3))
        self.same(fits(DEPOT, 7, passes, [(2, 3, False), (1, 2, False), (2, 3, True), (1, 2, True)]), ("clash", 1, 2))
        self.same(fits(DEPOT, 7, passes, [(1, 2, False), (1, 1, False), (1, 2, True), (1, 1, True)]), ("clash", 1, 1))

    def test_the_last_closing(self):
        passes = [1, 2, 2, 2]
        self.same(due_of(DEPOT, passes), [2, 3, 1, 2])
        self.same(self.answered(DEPOT, 7, passes, [(2, 1, True)]), ("clash", 2, 1))
        self.assertEqual(self.answered(DEPOT, 7, passes, [(2, 1, False)])[0], "fits")
        self.assertEqual(self.answered(DEPOT, 7, passes, [(1, 1, True)])[0], "not")
        self.same(self.answered(DEPOT, 7, passes, [(2, 1, True), (1, 0, True), (1, 0, False)]), ("clash", 1, 0))
        depot = Depot(2, 1, [1, 1])
        self.same(self.answered(depot, 2, [2, 0], [(1, 0, True)]), ("fits", [(1, (0,))]))

    def test_more_seen_than_the_quota(self):
        answer = self.answered(DEPOT, 7, [1, 2, 2, 2], [(1, 2, True), (1, 3, True)])
        self.assertEqual(answer[0], "not")
        self.assertIs(fits_stands(DEPOT, 7, [1, 2, 2, 2], [(1, 2, True), (1, 3, True)], ("not", ())), True)
        self.assertIs(fits_stands(DEPOT, 7, [1, 2, 2, 2], [(1, 2, True)], ("not", ())), False)

    def test_seen_more_often_than_it_can_be(self):
        answer = self.answered(DEPOT, 7, [1, 2, 2, 2], [(1, 2, True), (2, 2, True)])
        self.assertEqual(answer[0], "not")
        self.assertIs(fits_stands(DEPOT, 7, [1, 2, 2, 2], [(1, 2, True), (2, 2, True)], ("not", (0, 1, 3))), True)

    def test_kinds_of_arguments(self):
        expected = ("fits", [(1, (2,)), (1, (3,))])
        self.same(fits(depot=DEPOT, days=7, passes=(1, 2, 2, 2), notes=([1, 2, True],)), expected)
        self.same(fits(DEPOT, 7, [1, 2, 2, 2], [[1, 2, True], (2, 2, False)]), expected)
        self.assertIs(fits_stands(depot=DEPOT, days=7, passes=(1, 2, 2, 2), notes=((1, 2, True),),
                                  answer=("fits", [[1, [2]], (1, [3])])), True)

    def test_what_is_returned_may_be_changed(self):
        passes, notes = [1, 2, 2, 2], [(1, 2, True)]
        fits(DEPOT, 7, passes, notes)[1].clear()
        self.same((passes, notes), ([1, 2, 2, 2], [(1, 2, True)]))
        self.same(fits(DEPOT, 7, passes, notes), ("fits", [(1, (2,)), (1, (3,))]))


class StandsTest(NotesTest):
    def asked(self, depot, days, passes, notes, answer):
        case = Case(depot, days, passes, notes)
        for other in [answer, *changed_answers(answer)]:
            self.assertIs(self.untouched(fits_stands, depot, days, passes, notes, other), case.stands(other),
                          (depot.period, depot.quota, depot.firsts, days, passes, notes, other))

    def test_answers_and_changed_answers(self):
        dice = new_dice(74)
        words = {}
        for _ in range(160):
            depot = random_depot(dice, most_drivers=dice.choice([3, 6, 12]))
            book = random_book(dice, depot, dice.randint(1, 9), dice.choice([3, 9, FAR // 9]))
            closings = book.days // depot.period
            if not closings:
                continue
            crews = crews_seen(depot, book)
            notes = drawn_notes(dice, depot, crews, drawn_closings(dice, closings), dice.randint(0, 12), 0.07)
            passes = walk(depot, book).passes
            answer = fits(depot, book.days, passes, notes)
            words[answer[0]] = words.get(answer[0], 0) + 1
            self.asked(depot, book.days, passes, notes, answer)
            if len(crews) <= 40:
                self.asked(depot, book.days, passes, notes, ("fits", crews))
            drivers = tuple(sorted(dice.sample(range(depot.size), dice.randint(0, depot.size))))
            self.asked(depot, book.days, passes, notes, ("not", drivers))
            clash = ("clash", dice.choice([1, closings]), dice.randrange(depot.size))
            self.asked(depot, book.days, passes, notes, clash)
        self.assertTrue(all(words[word] > 3 for word in ("fits", "clash", "not")), words)

    def test_all_sets_of_drivers(self):
        notes = [(1, 2, True), (2, 2, True)]
        for many in range(5):
            for drivers in itertools.combinations(range(4), many):
                for told in (notes, notes[:1], [(1, 2, True), (1, 3, True)], [], [(2, 0, False), (2, 3, False)]):
                    self.asked(DEPOT, 7, [1, 2, 2, 2], told, ("not", drivers))

    def test_where_a_clash_stands_no_other_answer_holds(self):
        notes = [(2, 1, True), (1, 2, True), (1, 3, True)]
        self.assertIs(fits_stands(DEPOT, 7, [1, 2, 2, 2], notes, ("not", ())), False)
        self.assertIs(fits_stands(DEPOT, 7, [1, 2, 2, 2], notes, ("clash", 2, 1)), True)
        self.assertIs(fits_stands(DEPOT, 7, [1, 2, 2, 2], notes[1:], ("not", ())), True)
        self.assertIs(fits_stands(DEPOT, 7, [1, 2, 2, 2], notes[1:], ("clash", 2, 1)), False)
        for answer in (("fits", [(1, (2,)), (1, (3,))]), ("clash", 2, 0), ("clash", 1, 2), ("clash", 1, 1)):
            self.assertIs(fits_stands(DEPOT, 7, [1, 2, 2, 2], notes, answer), False)

    def test_too_many_rows(self):
        depot = Depot(1, 1, [1, 1])
        crews = [(1, (at % 2,)) for at in range(12)]
        for days in range(2, 13):
            passes = [days - days // 2, days // 2]
            for notes in ([], [(1, 0, True)], [(1, 0, True), (2, 1, True), (2, 0, False)], [(days, 0, days % 2 == 1)]):
                self.asked(depot, days, passes, notes, ("fits", crews[:days]))
        self.assertIs(fits_stands(depot, 5, [3, 2], [], ("fits", crews[:5])), True)
        self.assertIs(fits_stands(depot, 6, [3, 3], [], ("fits", crews[:6])), False)
        self.assertIs(fits_stands(depot, 7, [4, 3], [(1, 0, True)], ("fits", crews[:7])), True)
        self.assertIs(fits_stands(depot, 8, [4, 4], [(1, 0, True)] * 2, ("fits", crews[:8])), False)

    def test_equal_neighbours_of_unlike_kinds(self):
        depot = Depot(1, 1, [1, 1])
        for crews in ([(1, [0]), (1, (0,)), (1, (1,))], [(1, (0,)), [1, [0]], (1, (1,))],
                      [[1, [0]], [1, [0]], [1, [1]]]):
            self.assertIs(fits_stands(depot, 3, [2, 1], [], ("fits", crews)), False)
        for crews in ([(2, [0]), (1, (1,))], ((1, (0,)), [1, [1]], (1, [0]))):
            self.assertIs(fits_stands(depot, 3, [2, 1], [], ("fits", crews)), True)

    def test_other_forms(self):
        depot = Depot(1, 1, [1, 1])
        for answer in (("fits", 3), ("not", 3), ("fits", [3]), ("fits", [(3,)]), ("fits", [(2, (0,), 1), (1, (1,))]),
                       ("fits", [(2, (0,)), (1, (1,), 0)]), ("not", [(2, (0,)), (1, (1,))]), ("not", ((0,),)),
                       ("fits", (0, 1)), ("fits",), ("not",), ("fits", [(2, (0,)), (1, (1,))], 0)):
            self.assertIs(fits_stands(depot, 3, [2, 1], [], answer), False)

    def test_crews_too_great_and_too_small(self):
        depot = Depot(1, 1, [1, 1])
        self.assertIs(fits_stands(depot, 2, [1, 1], [], ("fits", [(1, (0,)), (1, (1,))])), True)
        self.assertIs(fits_stands(depot, 2, [1, 1], [], ("fits", [(1, (0, 1)), (1, ())])), False)
        self.assertIs(fits_stands(depot, 2, [1, 1], [], ("fits", [(1, ()), (1, (0, 1))])), False)
        self.assertIs(fits_stands(depot, 2, [1, 1], [], ("fits", [(1, (0,)), (0, (0,)), (1, (1,))])), False)
        self.assertIs(fits_stands(depot, 2, [1, 1], [], ("fits", [(2, (0,)), (1, (1,)), (-1, (0,))])), False)
        self.assertIs(fits_stands(depot, 2, [1, 1], [], ("fits", [(0, (1,)), (1, (0,)), (1, (1,))])), False)

    def test_without_a_closing(self):
        for answer, expected in ((("fits", []), True), (("fits", ()), True), (("not", ()), False),
                                 (("fits", [(1, (0,))]), False), (("clash", 0, 0), False), (("not", (0,)), False)):
            self.assertIs(fits_stands(DEPOT, 2, [2, 0, 0, 0], [], answer), expected)


class WrongArgumentsTest(PromiseTest):
    passes = [1, 2, 2, 2]

    def each(self, kind, at, code, *args):
        self.refused(kind, at, code, fits, *args)
        self.refused(kind, at, code, agreeing, *args)
        for answer in (("fits", []), ("not", ()), ()):
            self.refused(kind, at, code, fits_stands, *args, answer)

    def test_days_and_passes(self):
        for days in (-1, FAR + 1):
            self.each(OutOfRange, days, "days", DEPOT, days, [-1], [(0, 9, True)] * 41)
        for many in (0, 3, 5):
            self.each(BadPasses, many, "length", DEPOT, 7, [-1] * many, [(0, 9, True)] * 41)
        self.each(BadPasses, 2, "pass", DEPOT, 7, [1, 2, -1, -1], [(0, 9, True)] * 41)

    def test_too_many_notes(self):
        self.each(BadNotes, 40, "notes", DEPOT, 7, self.passes, [(0, 9, True)] * 41)
        self.each(BadNotes, 40, "notes", DEPOT, 7, self.passes, [(1, 2, True)] * 42)
        self.same(fits(DEPOT, 7, self.passes, [(1, 2, True)] * 40)[0], "fits")

    def test_closings_and_drivers(self):
        good = (1, 2, True)
        for closing in (0, 3, -1, FAR):
            self.each(BadNotes, 1, "closing", DEPOT, 7, self.passes, [good, (closing, 4, True), (0, 0, True)])
        for driver in (4, -1, 12):
            self.each(BadNotes, 2, "driver", DEPOT, 7, self.passes, [good, good, (2, driver, False), (3, 9, True)])
        self.each(BadNotes, 0, "closing", DEPOT, 2, [2, 0, 0, 0], [(1, 0, True)])

    def test_a_seventh_closing(self):
        passes = [24, 0, 0, 0]
        notes = [(closing, 1, False) for closing in (8, 1, 2, 3, 4, 5)]
        self.same(fits(DEPOT, 24, passes, notes * 6)[0], "fits")
        self.each(BadNotes, 6, "closings", DEPOT, 24, passes, notes + [(7, 0, False), (6, 0, False), (9, 0, True)])
        self.each(BadNotes, 12, "closings", DEPOT, 24, passes, notes * 2 + [(7, 0, False)])
        self.each(BadNotes, 6, "driver", DEPOT, 24, passes, notes + [(7, 4, False)])
        self.each(BadNotes, 6, "closing", DEPOT, 24, passes, notes + [(9, 4, False)])
        self.each(BadNotes, 3, "driver", DEPOT, 24, passes, notes[:3] + [(4, 4, False)] + notes + [(6, 0, False)])

    def test_passes_that_are_not_possible_behind_all_others(self):
        for passes in ([2, 0, 4, 2], [2, 0, 4, 1], [0, 0, 0, 9]):
            for notes in ([], [(1, 2, True)], [(1, 2, True), (1, 2, False)]):
                verdict = judge(DEPOT, 7, passes)
                self.no_book(NoBook, verdict, fits, DEPOT, 7, passes, notes)
                self.no_book(NoBook, verdict, agreeing, DEPOT, 7, passes, notes)
                for answer in (("fits", []), ("not", ()), ()):
                    self.no_book(NoBook, verdict, fits_stands, DEPOT, 7, passes, notes, answer)
            self.each(BadNotes, 0, "driver", DEPOT, 7, passes, [(1, 4, True)])


class AgreeingTest(PromiseTest):
    def test_fits_asked_for_each_front(self):
        dice = new_dice(75)
        found = set()
        for _ in range(120):
            depot = random_depot(dice)
            book = random_book(dice, depot, dice.randint(1, 9), dice.choice([3, 9, FAR // 9]))
            closings = book.days // depot.period
            if not closings:
                continue
            notes = drawn_notes(dice, depot, crews_seen(depot, book), drawn_closings(dice, closings),
                                dice.randint(0, 40), dice.choice([0, 0.02, 0.1]))
            passes = walk(depot, book).passes
            answers = [fits(depot, book.days, passes, notes[:many]) for many in range(len(notes) + 1)]
            good = [answer[0] == "fits" for answer in answers]
            self.assertEqual(good, sorted(good, reverse=True))
            many = good.count(True) - 1
            answer = self.untouched(agreeing, depot, book.days, passes, notes)
            if many == len(notes):
                self.same(answer, (many, None))
            else:
                self.same(answer[0], many)
                self.assertTrue(Case(depot, book.days, passes, notes[:many + 1]).stands(answer[1]))
                self.assertIs(fits_stands(depot, book.days, passes, notes[:many + 1], answer[1]), True)
            found.add((many == 0, many == len(notes)))
        self.assertEqual(len(found), 4)

    def test_all_and_none(self):
        passes = [1, 2, 2, 2]
        self.same(agreeing(DEPOT, 7, passes, [(1, 2, True), (2, 3, True)]), (2, None))
        self.same(agreeing(DEPOT, 7, passes, []), (0, None))
        self.same(agreeing(DEPOT, 7, passes, [(2, 1, True), (1, 2, True)]), (0, ("clash", 2, 1)))
        self.same(agreeing(depot=DEPOT, days=7, passes=passes, notes=((1, 3, True), [2, 1, True], (1, 3, False))),
                  (1, ("clash", 2, 1)))
        many, paper = agreeing(DEPOT, 7, passes, [(1, 2, True), (2, 2, True)])
        self.same((many, paper[0]), (1, "not"))

    def test_forty_notes(self):
        notes = [(1, 2, True)] * 39 + [(1, 2, False)]
        self.same(agreeing(DEPOT, 7, [1, 2, 2, 2], notes), (39, ("clash", 1, 2)))


class SeatTest(PromiseTest):
    """The flow by itself: the table keeps to rooms, limits and needs, and short drivers are short."""

    def test_drawn_seats(self):
        dice = new_dice(76)
        words = set()
        for _ in range(400):
            halls, size = dice.randint(1, 7), dice.randint(1, 8)
            top = dice.choice([1, 3, FAR])
            limits = [[dice.randint(0, top) for _ in range(size)] for _ in range(halls)]
            taken = [[dice.randint(0, limit) for limit in row] for row in limits]
            rooms = [sum(row) for row in taken]
            needs = [sum(column) for column in zip(*taken)]
            if dice.random() < 0.5:
                one, other = dice.randrange(size), dice.randrange(size)
                by = dice.randint(0, top)
                needs[one] += by
                needs[other] -= by
            word, found = self.untouched(seat, rooms, limits, needs)
            words.add(word)
            if word == "seated":
                self.assertEqual([sum(row) for row in found], rooms)
                self.assertEqual([sum(column) for column in zip(*found)], needs)
                self.assertTrue(all(0 <= seats <= limit for row, most in zip(found, limits)
                                    for seats, limit in zip(row, most)))
            else:
                room = sum(min(many, sum(row[driver] for driver in found)) for many, row in zip(rooms, limits))
                self.assertGreater(sum(needs[driver] for driver in found), room)
        self.assertEqual(words, {"seated", "short"})

    def test_less_than_nothing(self):
        self.same(seat([-1, 2], [[1], [2]], [1]), ("short", []))
        self.same(seat([2], [[2, 2, 2]], [3, -1, 0]), ("short", [0, 2]))
        self.same(seat([], [], []), ("seated", []))


if __name__ == "__main__":
    unittest.main()
