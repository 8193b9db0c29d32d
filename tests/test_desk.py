"""Points 46 to 48: a desk."""

import itertools
import unittest

from outagain.books import Book
from outagain.depots import Depot
from outagain.desk import Desk
from outagain.errors import BadBook, BadPasses, BadWish, GoalLost, NoBook, NothingLeft, OutOfRange
from outagain.judging import judge
from outagain.longbooks import book_of_passes
from outagain.passorder import first_row, last_row, next_row
from outagain.walking import After, walk
from outagain.wishes import least_day
from tests.counting import joined
from tests.plaindesk import PlainDesk, outcome
from tests.support import FAR, PromiseTest, alternating, new_dice, random_book, random_depot

DEPOT = Depot(3, 1, [1, 1, 2, 3])
LONG = Depot(1, 1, [1, 1, 1])
DEEDS = ("send", "send_all", "exchange", "amend", "set_goal", "drop_goal", "undo", "redo")


def told(after):
    return (after.days, after.passes, after.longs, after.nexts, after.due(), after.standing())


def answers_of(desk):
    """Everything that a desk tells without being asked about anything."""
    return (desk.today, desk.goal, desk.book().stretches, told(desk.after()), desk.standing(),
            outcome(desk.advice), outcome(desk.soonest, [0] * desk.standing().size))


def busy_depot(dice):
    """A depot with more drivers than day runs."""
    period, quota = dice.randint(2, 4), dice.randint(1, 2)
    firsts = [1] * quota + [dice.randint(1, period) for _ in range(dice.randint(2, 4))]
    dice.shuffle(firsts)
    return Depot(period, quota, firsts)


def drawn_runners(dice, plain, rows):
    """Runners for the next morning behind the rows, often good ones."""
    reporting = [i for i, first in enumerate(plain.standing(rows).firsts) if first == 1]
    kind = dice.random()
    if kind < 0.8:
        return sorted(dice.sample(reporting, plain.depot.quota))
    if kind < 0.9:
        return sorted(dice.sample(range(plain.depot.size + 1), dice.randint(0, plain.depot.size)))
    return dice.choice([[1, 0], [0, 0], [-1], [12], [3, 11], []])


def drawn_goal(dice, plain):
    """Days and passes, often possible ones."""
    today = len(plain.rows)
    days = today + dice.choice([0, 1, 2, 5, 9, 40]) - (dice.random() < 0.05)
    standing, had = plain.standing(plain.rows), plain.follow(plain.rows)[0]
    ahead = max(0, days - today)
    row = dice.choice([first_row, last_row])(standing, ahead)
    if dice.random() < 0.5:
        row = walk(standing, random_book(dice, standing, ahead, 1).head(ahead)).passes if ahead else row
    passes = [one + two for one, two in zip(row, had)]
    if dice.random() < 0.2:
        passes[dice.randrange(len(passes))] += dice.choice([-1, 1, -3, 3])
    if dice.random() < 0.2:
        by = dice.choice([1, 1, plain.depot.period])
        passes[dice.randrange(len(passes))] += by
        passes[dice.randrange(len(passes))] -= by
    if dice.random() < 0.05:
        passes.append(0)
    return days, passes


def drawn_deed(dice, plain):
    """The name of a deed and its arguments."""
    name = dice.choice(["send"] * 5 + ["send_all", "send_all", "exchange", "exchange", "amend", "amend", "set_goal",
                                       "drop_goal", "undo", "undo", "redo", "redo"])
    today = len(plain.rows)
    if name == "send":
        days = dice.choice([1, 1, 1, 2, 3, 5]) if dice.random() < 0.9 else dice.choice([0, -1, FAR + 1])
        return name, (drawn_runners(dice, plain, plain.rows), days)
    if name == "send_all":
        stretches, rows = [], plain.rows
        for _ in range(dice.randint(0, 4)):
            runners, days = drawn_runners(dice, plain, rows), dice.choice([1, 1, 2, 3])
            stretches.append((days, runners))
            if outcome(plain.grown, rows, 0, days, runners)[0] != "gives":
                break
            rows = plain.grown(rows, 0, days, runners)
        return name, (stretches + [(0, [0])] * (dice.random() < 0.1),)
    if name in ("exchange", "amend"):
        morning = dice.choice([1, today, max(1, today // 2), dice.randint(1, today + 1), dice.randint(1, today + 1),
                               dice.choice([0, today + 1, -1])])
        if name == "exchange":
            reporting = plain.follow(plain.rows)[3][morning - 1] if 1 <= morning <= today else (0,)
            drivers = dice.choice([reporting, reporting, reporting, range(plain.depot.size), (-1, 0, 99)])
            return name, (morning, dice.choice(drivers), dice.choice(drivers))
        rows = plain.rows[:morning - 1] if 1 <= morning <= today else ()
        return name, (morning, drawn_runners(dice, plain, rows))
    return name, drawn_goal(dice, plain) if name == "set_goal" else ()


class DeskTest(PromiseTest):
    def alike(self, desk, plain):
        """The desk tells what the plain desk has, and nothing else."""
        book = Book(joined(plain.rows))
        self.same((desk.today, desk.goal), (len(plain.rows), plain.goal))
        self.same(desk.book().stretches, book.stretches)
        self.assertIs(type(desk.book()), Book)
        self.assertIs(type(desk.after()), After)
        self.same(told(desk.after()), told(walk(plain.depot, book)))
        self.assertEqual(desk.standing(), plain.standing(plain.rows))

    def done(self, desk, plain, name, *args):
        """Both do the deed or refuse it alike; gives what came out."""
        expected = outcome(getattr(plain, name), *args)
        self.same(outcome(self.untouched, getattr(desk, name), *args), expected)
        return expected


class DrawnDeedsTest(DeskTest):
    def test_rows_of_deeds(self):
        dice = new_dice(120)
        found = {}
        for at in range(600):
            depot = busy_depot(dice) if at % 3 else random_depot(dice)
            desk, plain = Desk(depot), PlainDesk(depot)
            for _ in range(dice.randint(5, 25)):
                name, args = drawn_deed(dice, plain)
                out = self.done(desk, plain, name, *args)
                self.alike(desk, plain)
                kind = (name, *[part for part in out if isinstance(part, str)])
                kind += (out[1][0],) if out[0] in ("GoalLost", "NoBook") else ()
                found[kind] = found.get(kind, 0) + 1
        expected = [(name, "gives") for name in DEEDS]
        expected += [(name, "NothingLeft") for name in ("undo", "redo", "drop_goal")]
        expected += [(name, "BadBook", code) for name in ("send", "send_all")
                     for code in ("days", "runners", "driver", "count", "away")]
        expected += [(name, "GoalLost", word) for name in ("send", "send_all") for word in ("days", "gone")]
        expected += [("amend", "BadBook", code) for code in ("runners", "driver", "count", "away")]
        expected += [(name, "OutOfRange", "morning") for name in ("exchange", "amend")]
        expected += [(name, "GoalLost", "gone") for name in ("exchange", "amend")]
        expected += [("exchange", "OutOfRange", "driver"), ("exchange", "BadBook", "apart")]
        expected += [("set_goal", "OutOfRange", "days"), ("set_goal", "BadPasses", "length"),
                     ("set_goal", "BadPasses", "pass")]
        expected += [("set_goal", "NoBook", word) for word in ("gone", "sum", "weekday")]
        self.assertEqual([kind for kind in expected if kind not in found], [], found)

    def test_all_undone_and_done_again(self):
        dice = new_dice(121)
        for _ in range(40):
            depot = busy_depot(dice)
            desk, plain = Desk(depot), PlainDesk(depot)
            for _ in range(15):
                self.done(desk, plain, *flat(drawn_deed(dice, plain)))
            for name in ("undo", "redo", "undo"):
                while self.done(desk, plain, name)[0] == "gives":
                    self.alike(desk, plain)
            self.same((desk.today, desk.goal, desk.book().stretches), (0, None, ()))

    def test_can_send_exactly_where_send_does_not_raise(self):
        dice = new_dice(122)
        found = {}
        for _ in range(40):
            depot = busy_depot(dice)
            desk, plain = Desk(depot), PlainDesk(depot)
            for _ in range(12):
                self.done(desk, plain, *flat(drawn_deed(dice, plain)))
                before = answers_of(desk)
                for many in range(4):
                    for runners in itertools.combinations(range(depot.size + 1), many):
                        days = dice.choice([1, 1, 1, 0, 2, 3, FAR])
                        good = self.untouched(desk.can_send, list(runners), days)
                        self.assertIs(good, outcome(self.copied(desk, depot).send, runners, days)[0] == "gives")
                        if days < FAR:
                            self.assertIs(good, outcome(plain.grown, plain.rows, 0, days, runners)[0] == "gives")
                        found[good] = found.get(good, 0) + 1
                self.assertEqual(answers_of(desk), before)
        self.assertTrue(min(found[True], found[False]) > 100, found)

    def copied(self, desk, depot):
        """Another desk with the same book and goal."""
        other = Desk(depot)
        other.send_all(desk.book().stretches)
        if desk.goal is not None:
            other.set_goal(*desk.goal)
        return other

    def test_verdicts_from_the_present(self):
        dice = new_dice(123)
        words = set()
        for _ in range(80):
            depot = busy_depot(dice)
            desk, plain = Desk(depot), PlainDesk(depot)
            for _ in range(6):
                self.done(desk, plain, *flat(drawn_deed(dice, plain)))
            for _ in range(25):
                days, passes = drawn_goal(dice, plain)
                answer = self.untouched(outcome, desk.verdict, days, passes)
                self.same(answer, outcome(plain.verdict, days, passes))
                words.add(answer[1][0] if answer[0] == "gives" else answer[-1])
        self.assertLessEqual({"possible", "gone", "sum", "weekday", "beyond", "days", "length", "pass"}, words)


def flat(deed):
    name, args = deed
    return (name, *args)


class SendTest(DeskTest):
    def test_ordinary(self):
        desk = Desk(depot=DEPOT)
        self.assertIsNone(desk.send([1]))
        self.assertIsNone(desk.send(runners=(2,)))
        self.assertIsNone(desk.send(runners=[3], days=2))
        self.same((desk.today, desk.goal, desk.book().stretches), (4, None, ((1, (1,)), (1, (2,)), (2, (3,)))))
        self.same(desk.after().passes, (0, 1, 1, 2))
        self.same(desk.standing().firsts, (3, 1, 2, 1))
        self.same(Desk(DEPOT).book().stretches, ())

    def test_days_ahead_of_runners_ahead_of_walking(self):
        desk = Desk(DEPOT)
        desk.set_goal(0, [0, 0, 0, 0])
        for days in (0, -1, FAR + 1):
            self.refused(BadBook, 0, "days", desk.send, [1, 0], days)
            self.refused(BadBook, 0, "days", desk.send_all, [(days, [9, 9])])
        for runners in ([1, 0], [0, 0], [-1], [12], [0, 12]):
            self.refused(BadBook, 0, "runners", desk.send, runners, FAR)
        self.refused(BadBook, 0, "driver", desk.send, [4, 5])
        self.refused(BadBook, 0, "count", desk.send, [2, 3])
        self.refused(BadBook, 0, "count", desk.send, [])
        self.refused(BadBook, 0, "away", desk.send, [2])
        self.no_book(GoalLost, ("days",), desk.send, [1])
        self.same((desk.today, desk.goal), (0, (0, (0, 0, 0, 0))))

    def test_400_stretches(self):
        desk = Desk(LONG)
        desk.send_all(alternating(399))
        desk.send([1])
        self.same(len(desk.book().stretches), 400)
        for runners in ([1], [0], [2]):
            self.refused(BadBook, 400, "stretches", desk.send, runners)
            self.assertIs(desk.can_send(runners), False)
        self.refused(BadBook, 0, "count", desk.send, [])
        desk.set_goal(desk.today, desk.after().passes)
        self.refused(BadBook, 400, "stretches", desk.send, [1], FAR)
        desk.undo()
        desk.undo()
        self.same(len(desk.book().stretches), 399)
        desk.send([0])
        self.same((len(desk.book().stretches), desk.today), (399, 400))
        desk.send([1])
        self.refused(BadBook, 400, "stretches", desk.send_all, [(1, [1])])

    def test_counted_ahead_of_joining(self):
        desk = Desk(LONG)
        desk.send_all(alternating(400))
        self.refused(BadBook, 400, "stretches", desk.send, [1])
        desk.undo()
        desk.send_all([(2, [0])] * 900)
        self.same(desk.book().stretches, ((1800, (0,)),))

    def test_the_most_days(self):
        desk = Desk(LONG)
        desk.send([0], FAR)
        self.refused(BadBook, 0, "total", desk.send, [1])
        self.refused(BadBook, 0, "total", desk.send, [0], FAR)
        self.refused(BadBook, 0, "total", desk.send_all, [(1, [1])])
        self.assertIs(desk.can_send([0]), False)
        desk.undo()
        desk.send([1], FAR - 1)
        self.assertIs(desk.can_send([0], 2), False)
        self.refused(BadBook, 0, "total", desk.send_all, [(1, [0]), (1, [0])])
        desk.set_goal(FAR, [1, FAR - 1, 0])
        self.refused(BadBook, 0, "total", desk.send, [0], 2)
        self.no_book(GoalLost, ("gone", 1), desk.send, [1])
        desk.send([0])
        self.same((desk.today, desk.after().passes), (FAR, (1, FAR - 1, 0)))

    def test_goals_that_are_lost(self):
        for days, passes, runners, many, reason in (
                (7, [1, 2, 2, 2], [1], 8, ("days",)),
                (7, [0, 1, 1, 5], [0], 1, ("gone", 0)),
                (7, [1, 2, 2, 2], [0], 2, ("gone", 0)),
                (7, [0, 1, 1, 5], [1], 2, ("gone", 1)),
                (7, [7, 0, 0, 0], [0], 8, ("days",))):
            desk = Desk(DEPOT)
            desk.set_goal(days, passes)
            self.no_book(GoalLost, reason, desk.send, runners, many)
            self.no_book(GoalLost, reason, desk.send_all, [(many, runners), (0, [0])])
            self.same((desk.today, desk.goal), (0, (days, tuple(passes))))

    def test_each_reason_from_the_present(self):
        dice = new_dice(124)
        words = set()
        for _ in range(400):
            depot = random_depot(dice, 4, 5)
            book = random_book(dice, depot, dice.randint(2, 9), 2)
            passes = walk(depot, book).passes
            for at in range(book.days):
                desk = Desk(depot)
                desk.send_all(book.head(at).stretches)
                desk.set_goal(book.days, passes)
                reporting = [i for i, first in enumerate(desk.standing().firsts) if first == 1]
                for runners in itertools.combinations(reporting, depot.quota):
                    piece = Book([(1, runners)])
                    after = walk(depot, desk.book() + piece)
                    rest = [one - two for one, two in zip(passes, after.passes)]
                    gone = [("gone", driver) for driver, left in enumerate(rest) if left < 0]
                    reason = (gone or [judge(after.standing(), book.days - at - 1, [max(0, left) for left in rest])])[0]
                    words.add(reason[0])
                    self.assertIs(desk.can_send(runners), reason == ("possible",))
                    if reason != ("possible",):
                        self.no_book(GoalLost, reason, desk.send, runners)
        # A deed changes neither the sum that is due nor the weekdays of the marks.
        self.assertEqual(words, {"possible", "gone", "beyond", "early"})


class SendAllTest(DeskTest):
    def test_a_bad_stretch_in_the_middle(self):
        desk = Desk(DEPOT)
        desk.send([1])
        before = answers_of(desk)
        for bad, code in (((0, [3]), "days"), ((1, [3, 2]), "runners"), ((1, [4]), "driver"), ((1, [2, 3]), "count"),
                          ((FAR + 1, [9, 9]), "days")):
            self.refused(BadBook, 2, code, desk.send_all, [(1, [2]), (1, [3]), bad, (0, [9]), (1, [0, 0])])
            self.refused(BadBook, 0, code, desk.send_all, [bad, (0, [9])])
        self.refused(BadBook, 2, "away", desk.send_all, [(1, [2]), (1, [3]), (1, [1]), (0, [9])])
        self.refused(BadBook, 0, "away", desk.send_all, [(1, [0]), (0, [9])])
        self.assertEqual(answers_of(desk), before)
        self.refused(BadBook, 0, "total", desk.send_all, [(1, [2]), (FAR, [2]), (0, [2])])
        self.assertEqual(answers_of(desk), before)

    def test_each_stretch_is_held_against_the_goal_before_the_next_one(self):
        desk = Desk(DEPOT)
        desk.set_goal(4, [0, 1, 1, 2])
        self.no_book(GoalLost, ("gone", 1), desk.send_all, [(1, [1]), (1, [1]), (0, [9, 9])])
        self.refused(BadBook, 1, "away", desk.send_all, [(1, [1]), (1, [0])])
        self.no_book(GoalLost, ("days",), desk.send_all, [(1, [1]), (1, [2]), (2, [3]), (1, [3]), (0, [])])
        self.same(desk.today, 0)
        desk.send_all(((1, (1,)), [1, [2]], (2, (3,))))
        self.same((desk.today, desk.after().passes), (4, (0, 1, 1, 2)))

    def test_one_deed(self):
        desk = Desk(DEPOT)
        self.assertIsNone(desk.send_all([(1, [1]), (1, [2]), (2, [3])]))
        desk.undo()
        self.same(desk.today, 0)
        desk.redo()
        self.same(desk.book().stretches, ((1, (1,)), (1, (2,)), (2, (3,))))

    def test_an_empty_list_is_no_deed(self):
        desk = Desk(DEPOT)
        for empty in ([], ()):
            self.assertIsNone(desk.send_all(empty))
            self.assertRaises(NothingLeft, desk.undo)
        desk.send([1])
        desk.undo()
        desk.send_all([])
        desk.redo()
        self.same(desk.today, 1)
        desk.send_all([])
        desk.undo()
        self.same(desk.today, 0)

    def test_401_stretches(self):
        desk = Desk(LONG)
        self.refused(BadBook, 400, "stretches", desk.send_all, alternating(401))
        self.same(desk.today, 0)
        self.refused(BadBook, 400, "days", desk.send_all, alternating(400) + [(0, [0])])
        self.refused(BadBook, 401, "away", Desk(Depot(2, 1, [1, 1, 1])).send_all, [(1, [0])] * 401 + [(1, [1])])
        desk.send_all(alternating(400))
        self.same(len(desk.book().stretches), 400)


class ExchangeTest(DeskTest):
    def test_ordinary(self):
        desk = Desk(DEPOT)
        desk.send_all([(1, [1]), (1, [2]), (2, [3])])
        self.assertIsNone(desk.exchange(1, 0, 1))
        self.same(desk.book().stretches, ((1, (0,)), (1, (2,)), (2, (3,))))
        desk.exchange(morning=2, one=2, other=0)
        self.same(desk.book().stretches, ((2, (0,)), (2, (3,))))
        desk.undo()
        desk.undo()
        self.same(desk.book().stretches, ((1, (1,)), (1, (2,)), (2, (3,))))

    def test_first_middle_and_last_morning_of_a_long_book(self):
        depot = Depot(2, 1, [1, 1, 2])
        desk = Desk(depot)
        desk.send_all([(FAR // 2, [0]), (FAR // 2, [0])])
        desk.exchange(1, 1, 0)
        self.same(desk.book().stretches, ((FAR, (1,)),))
        desk.exchange(FAR // 2 + 1, 0, 1)
        self.same(desk.book().stretches, ((FAR // 2, (1,)), (FAR // 2, (0,))))
        desk.exchange(FAR - 1, 1, 0)
        self.same(desk.book().stretches, ((FAR // 2, (1,)), (FAR // 2 - 2, (0,)), (2, (1,))))
        desk.exchange(FAR, 1, 2)
        self.same(desk.book().stretches, ((FAR // 2, (1,)), (FAR // 2 - 2, (0,)), (1, (1,)), (1, (2,))))
        self.refused(BadBook, FAR, "apart", desk.exchange, FAR, 1, 0)
        self.assertEqual(told(desk.after()), told(walk(depot, desk.book())))

    def test_a_driver_with_itself(self):
        desk = Desk(DEPOT)
        desk.send([1], 3)
        before = desk.book()
        desk.exchange(1, 0, 0)
        self.assertEqual(desk.book(), before)
        self.refused(BadBook, 2, "apart", desk.exchange, 2, 0, 0)
        self.refused(BadBook, 1, "apart", desk.exchange, 1, 2, 2)
        desk.exchange(2, 2, 2)
        desk.undo()
        desk.undo()
        self.same(desk.today, 3)
        desk.undo()
        self.same(desk.today, 0)

    def test_errors_in_their_order(self):
        desk = Desk(DEPOT)
        for morning in (-1, 0, 1):
            self.refused(OutOfRange, morning, "morning", desk.exchange, morning, 9, 9)
        desk.send([1], 3)
        for morning in (-1, 0, 4, FAR):
            self.refused(OutOfRange, morning, "morning", desk.exchange, morning, 9, 9)
        for driver in (-1, 4, 12):
            self.refused(OutOfRange, driver, "driver", desk.exchange, 1, driver, 99)
            self.refused(OutOfRange, driver, "driver", desk.exchange, 2, 3, driver)
        self.refused(BadBook, 2, "apart", desk.exchange, 2, 0, 2)
        self.refused(BadBook, 2, "apart", desk.exchange, 2, 1, 3)
        self.refused(BadBook, 1, "apart", desk.exchange, 1, 2, 3)
        self.same(desk.book().stretches, ((3, (1,)),))

    def test_400_and_401_stretches(self):
        desk = Desk(LONG)
        desk.send_all(alternating(399, 2))
        # In the middle of a stretch an exchange of its runner parts it in two, but no exchange of others.
        desk.exchange(400, 0, 2)
        self.same(len(desk.book().stretches), 399)
        desk.undo()
        desk.exchange(402, 0, 2)
        self.same((len(desk.book().stretches), desk.book().tail(400).head(3).stretches),
                  (400, ((1, (0,)), (1, (2,)), (1, (1,)))))
        for goal in (False, True):
            if goal:
                desk.set_goal(798, desk.after().passes)
            self.refused(BadBook, 400, "stretches", desk.exchange, 406, 2, 1)
            self.refused(BadBook, 400, "stretches", desk.exchange, 2, 0, 1)
            self.refused(BadBook, 400, "stretches", desk.exchange, 798, 0, 2)
        desk.drop_goal()
        desk.exchange(405, 2, 1)
        self.same(len(desk.book().stretches), 399)

    def test_joined_ahead_of_counting(self):
        desk = Desk(LONG)
        desk.send_all(alternating(400, 2))
        desk.exchange(2, 0, 0)
        self.refused(BadBook, 400, "stretches", desk.exchange, 2, 0, 1)
        desk.exchange(3, 0, 1)
        self.same(len(desk.book().stretches), 399)
        desk.exchange(6, 0, 1)
        self.same(len(desk.book().stretches), 400)

    def test_goals(self):
        desk = Desk(DEPOT)
        desk.send([1])
        desk.set_goal(7, [0, 1, 1, 5])
        self.no_book(GoalLost, ("gone", 0), desk.exchange, 1, 0, 1)
        desk.set_goal(7, [1, 2, 2, 2])
        desk.exchange(1, 1, 0)
        self.same((desk.after().passes, desk.goal), ((1, 0, 0, 0), (7, (1, 2, 2, 2))))


class AmendTest(DeskTest):
    def test_ordinary(self):
        desk = Desk(DEPOT)
        desk.send_all([(1, [1]), (1, [2]), (2, [3])])
        self.assertIsNone(desk.amend(4, [0]))
        self.same(desk.book().stretches, ((1, (1,)), (1, (2,)), (1, (3,)), (1, (0,))))
        desk.amend(morning=4, runners=(3,))
        self.same(desk.book().stretches, ((1, (1,)), (1, (2,)), (2, (3,))))

    def test_the_runners_that_stood_there(self):
        desk = Desk(DEPOT)
        desk.send([1], 5)
        desk.send([3], 2)
        before = desk.book()
        for morning in (1, 3, 5, 6, 7):
            desk.amend(morning, list(desk.book().runners_on(morning)))
            self.assertEqual(desk.book(), before)
        for left in range(4, -1, -1):
            desk.undo()
            self.assertEqual(desk.book(), before)
        desk.undo()
        self.same(desk.today, 5)

    def test_first_middle_and_last_morning_of_a_long_book(self):
        depot = Depot(1, 1, [1, 1, 1])
        desk = Desk(depot)
        desk.send([0], FAR)
        desk.amend(1, [1])
        desk.amend(FAR, [2])
        desk.amend(FAR // 2, [1])
        self.same(desk.book().stretches, ((1, (1,)), (FAR // 2 - 2, (0,)), (1, (1,)), (FAR // 2 - 1, (0,)), (1, (2,))))
        desk.amend(2, [1])
        self.same(desk.book().stretches[:2], ((2, (1,)), (FAR // 2 - 3, (0,))))
        self.same(desk.after().passes, (FAR - 4, 3, 1))

    def test_errors_in_their_order(self):
        desk = Desk(DEPOT)
        for morning in (-1, 0, 1):
            self.refused(OutOfRange, morning, "morning", desk.amend, morning, [1, 0])
        desk.send_all([(1, [1]), (1, [2]), (2, [3])])
        for morning in (-1, 0, 5, FAR):
            self.refused(OutOfRange, morning, "morning", desk.amend, morning, [1, 0])
        for runners in ([1, 0], [0, 0], [-1], [12], [3, 12]):
            self.refused(BadBook, 0, "runners", desk.amend, 3, runners)
        self.refused(BadBook, 2, "driver", desk.amend, 3, [4])
        self.refused(BadBook, 2, "count", desk.amend, 3, [])
        self.refused(BadBook, 2, "count", desk.amend, 3, [2, 3])
        self.refused(BadBook, 2, "away", desk.amend, 3, [1])
        self.refused(BadBook, 3, "driver", desk.amend, 4, [4])
        self.same(desk.today, 4)

    def test_the_index_is_counted_with_equal_neighbours_joined(self):
        desk = Desk(DEPOT)
        desk.send_all([(1, [1]), (1, [2]), (2, [3])])
        # Driver 3 goes on a long run on morning 3; the amended morning joins the one ahead.
        self.refused(BadBook, 2, "away", desk.amend, 3, [2])
        desk.send([3])
        self.refused(BadBook, 2, "away", desk.amend, 3, [2])
        desk = Desk(Depot(2, 1, [1, 1]))
        desk.send([0], 4)
        self.refused(BadBook, 1, "away", desk.amend, 1, [1])
        self.refused(BadBook, 1, "away", desk.amend, 2, [1])
        self.refused(BadBook, 2, "away", desk.amend, 3, [1])
        self.refused(BadBook, 1, "away", desk.amend, 4, [1])

    def test_400_and_401_stretches(self):
        desk = Desk(LONG)
        desk.send_all(alternating(399, 3))
        desk.amend(3, [2])
        self.same(len(desk.book().stretches), 400)
        self.refused(BadBook, 400, "stretches", desk.amend, 5, [2])
        self.refused(BadBook, 400, "stretches", desk.amend, 6, [2])
        self.refused(BadBook, 400, "stretches", desk.amend, 5, [11])
        self.refused(BadBook, 400, "stretches", desk.amend, 6, [])
        self.refused(BadBook, 0, "runners", desk.amend, 5, [2, 1])
        desk.set_goal(1197, desk.after().passes)
        self.refused(BadBook, 400, "stretches", desk.amend, 5, [2])
        desk.drop_goal()
        self.refused(BadBook, 1, "driver", desk.amend, 3, [11])
        desk.amend(3, [1])
        self.same(len(desk.book().stretches), 399)

    def test_goals(self):
        desk = Desk(LONG)
        desk.send([0], 4)
        desk.set_goal(6, [4, 1, 1])
        self.refused(BadBook, 1, "driver", desk.amend, 2, [3])
        desk.amend(2, [1])
        self.same(desk.after().passes, (3, 1, 0))
        self.no_book(GoalLost, ("gone", 1), desk.amend, 3, [1])
        desk.amend(3, [2])
        self.no_book(GoalLost, ("gone", 2), desk.amend, 4, [2])


class GoalTest(DeskTest):
    def test_set_replaced_dropped(self):
        desk = Desk(DEPOT)
        passes = [1, 2, 2, 2]
        self.assertIsNone(desk.set_goal(days=7, passes=passes))
        passes[0] = 9
        self.same(desk.goal, (7, (1, 2, 2, 2)))
        desk.set_goal(7, (0, 1, 1, 5))
        self.same(desk.goal, (7, (0, 1, 1, 5)))
        self.assertIsNone(desk.drop_goal())
        self.assertIsNone(desk.goal)
        self.assertRaises(NothingLeft, desk.drop_goal)
        desk.undo()
        self.same(desk.goal, (7, (0, 1, 1, 5)))
        desk.undo()
        self.same(desk.goal, (7, (1, 2, 2, 2)))
        desk.undo()
        self.assertIsNone(desk.goal)
        self.assertRaises(NothingLeft, desk.undo)

    def test_a_goal_that_stands_set_again_is_a_deed(self):
        desk = Desk(DEPOT)
        desk.set_goal(7, [1, 2, 2, 2])
        desk.set_goal(7, [1, 2, 2, 2])
        desk.undo()
        self.same(desk.goal, (7, (1, 2, 2, 2)))
        desk.undo()
        self.assertIsNone(desk.goal)

    def test_errors_in_their_order(self):
        desk = Desk(DEPOT)
        desk.send([1], 3)
        for days in (-1, 0, 2, FAR + 1):
            self.refused(OutOfRange, days, "days", desk.set_goal, days, [-1])
            self.refused(OutOfRange, days, "days", desk.verdict, days, [-1])
        for many in (0, 3, 5):
            self.refused(BadPasses, many, "length", desk.set_goal, 7, [-1] * many)
            self.refused(BadPasses, many, "length", desk.verdict, 7, [-1] * many)
        self.refused(BadPasses, 2, "pass", desk.set_goal, 7, [0, 0, -1, -1])
        self.refused(BadPasses, 2, "pass", desk.verdict, 7, [0, 0, -1, -1])
        self.no_book(NoBook, ("gone", 1), desk.set_goal, 7, [2, 2, 2, 1])
        self.same(desk.verdict(days=7, passes=[2, 2, 2, 1]), ("gone", 1))
        self.no_book(NoBook, ("sum", 3, 4), desk.set_goal, 7, [0, 6, 0, 0])
        self.assertIsNone(desk.goal)

    def test_each_reason_from_the_present(self):
        dice = new_dice(127)
        words = set()
        for depot in (DEPOT, Depot(2, 1, [1, 2, 2]), Depot(2, 2, [1, 1, 2, 1]), Depot(3, 1, [1, 2, 2])):
            book = random_book(dice, depot, depot.period, 1).head(depot.period)
            standing, had = walk(depot, book).standing(), walk(depot, book).passes
            for days in range(book.days, book.days + 5):
                for passes in itertools.product(range(days + 2), repeat=depot.size):
                    rest = [one - two for one, two in zip(passes, had)]
                    if abs(sum(passes) - depot.quota * days) > 1:
                        continue
                    gone = [("gone", driver) for driver, left in enumerate(rest) if left < 0]
                    reason = gone[0] if gone else judge(standing, days - book.days, rest)
                    desk = Desk(depot)
                    desk.send_all(book.stretches)
                    self.assertEqual(desk.verdict(days, passes), reason)
                    words.add(reason[0])
                    if reason == ("possible",):
                        desk.set_goal(days, passes)
                        self.same(desk.goal, (days, passes))
                    else:
                        self.no_book(NoBook, reason, desk.set_goal, days, passes)
                        self.assertIsNone(desk.goal)
        self.assertEqual(words, {"possible", "gone", "sum", "weekday", "beyond", "early"})

    def test_far_goals(self):
        desk = Desk(DEPOT)
        desk.send([1], FAR - 9)
        standing = desk.standing()
        row = [one + two for one, two in zip(desk.after().passes, first_row(standing, 9))]
        desk.set_goal(FAR, row)
        while desk.today < FAR:
            desk.send(desk.advice())
        self.same(desk.after().passes, tuple(row))
        desk = Desk(DEPOT)
        passes = [10 ** 20 * 3 - 3, 0, 3, 0]
        desk.set_goal(3 * 10 ** 20, passes)
        desk.send_all(book_of_passes(DEPOT, 3 * 10 ** 20, passes).stretches)
        self.same(desk.after().passes, tuple(passes))

    def test_at_the_end_the_passes_are_those_of_the_goal(self):
        desk = Desk(DEPOT)
        desk.set_goal(4, [0, 1, 1, 2])
        self.assertRaises(NothingLeft, Desk(DEPOT).advice)
        while desk.today < 4:
            desk.send(desk.advice())
        self.same(desk.after().passes, (0, 1, 1, 2))
        self.assertRaises(NothingLeft, desk.advice)
        self.no_book(GoalLost, ("days",), desk.send, [i for i, f in enumerate(desk.standing().firsts) if f == 1][:1])
        self.same(desk.verdict(4, [0, 1, 1, 2]), ("possible",))
        self.same(desk.verdict(4, [1, 1, 1, 1]), ("gone", 3))


class UndoTest(DeskTest):
    def test_new_and_refused_deeds_in_between(self):
        desk = Desk(DEPOT)
        desk.send([1])
        desk.send([2])
        desk.undo()
        self.refused(BadBook, 0, "away", desk.send, [0])
        self.refused(OutOfRange, 9, "morning", desk.amend, 9, [0])
        self.refused(OutOfRange, 9, "morning", desk.exchange, 9, 0, 0)
        self.assertRaises(NothingLeft, desk.drop_goal)
        self.no_book(NoBook, ("gone", 1), desk.set_goal, 1, [0, 0, 0, 0])
        desk.redo()
        self.same(desk.book().stretches, ((1, (1,)), (1, (2,))))
        self.assertRaises(NothingLeft, desk.redo)
        desk.undo()
        desk.send([1])
        self.assertRaises(NothingLeft, desk.redo)
        self.same(desk.book().stretches, ((2, (1,)),))

    def test_each_new_deed_leaves_nothing_to_redo(self):
        for deed, args in (("send", ([1],)), ("send_all", ([(1, [1])],)), ("exchange", (1, 0, 1)), ("amend", (1, [1])),
                           ("set_goal", (7, [1, 2, 2, 2])), ("drop_goal", ())):
            desk = Desk(DEPOT)
            desk.set_goal(7, [1, 2, 2, 2])
            desk.send([1])
            desk.send([1])
            desk.undo()
            getattr(desk, deed)(*args)
            self.assertRaises(NothingLeft, desk.redo)
            desk.undo()
            self.same((desk.book().stretches, desk.goal), (((1, (1,)),), (7, (1, 2, 2, 2))))
            self.assertIsNone(desk.redo())
            self.assertRaises(NothingLeft, desk.redo)

    def test_long_rows(self):
        desk = Desk(LONG)
        for at in range(300):
            desk.send([at % 2])
        for at in range(300, 0, -1):
            self.assertEqual(desk.today, at)
            self.assertIsNone(desk.undo())
        self.assertRaises(NothingLeft, desk.undo)
        for at in range(300):
            self.assertEqual(desk.today, at)
            desk.redo()
        self.assertRaises(NothingLeft, desk.redo)

    def test_nothing_left_at_the_beginning(self):
        for name in ("undo", "redo", "drop_goal", "advice"):
            self.assertRaises(NothingLeft, getattr(Desk(DEPOT), name))


class AnswersTest(DeskTest):
    def test_advice_can_be_sent_until_the_goal_is_reached(self):
        dice = new_dice(125)
        for at in range(150):
            depot = random_depot(dice, *((3, 5) if at % 2 else (8, 12)))
            book = random_book(dice, depot, dice.randint(1, 12), 4)
            passes = walk(depot, book).passes
            if at % 3 == 0:
                passes = tuple(dice.choice([first_row, last_row])(depot, book.days))
            desk = Desk(depot)
            desk.set_goal(book.days, passes)
            while desk.today < book.days:
                runners = desk.advice()
                self.same(runners, tuple(sorted(set(runners))))
                self.assertIs(desk.can_send(runners), True)
                desk.send(runners)
                if dice.random() < 0.2:
                    good = [some for some in itertools.combinations(range(depot.size), depot.quota)
                            if desk.today < book.days and desk.can_send(some)]
                    if good:
                        desk.send(dice.choice(good))
            self.same(desk.after().passes, passes)
            self.assertRaises(NothingLeft, desk.advice)

    def test_advice_for_all_goals_of_a_small_depot(self):
        for depot in (DEPOT, Depot(2, 1, [1, 1, 2]), Depot(3, 2, [1, 1, 1, 3]), Depot(2, 2, [2, 1, 1, 2])):
            for days in range(1, 8):
                row = first_row(depot, days)
                while row is not None:
                    desk = Desk(depot)
                    desk.set_goal(days, row)
                    while desk.today < days:
                        desk.send(desk.advice())
                    self.same(desk.after().passes, tuple(row))
                    row = next_row(depot, days, row)

    def test_soonest(self):
        dice = new_dice(126)
        words = set()
        for _ in range(150):
            depot = random_depot(dice, 5, 6)
            desk = Desk(depot)
            book = random_book(dice, depot, dice.randint(0, 5), dice.choice([3, FAR // 5]))
            desk.send_all(book.stretches)
            wish = [dice.choice([0, 0, dice.randint(1, depot.period)]) for _ in range(depot.size)]
            expected = least_day(walk(depot, book).standing(), wish)
            answer = self.untouched(desk.soonest, wish)
            words.add(answer[0])
            if expected == ("never",):
                self.same(answer, expected)
            else:
                self.same(answer, ("least", book.days + expected[1], expected[2]))
        self.assertEqual(words, {"least", "never"})

    def test_soonest_above_the_most_days(self):
        depot = Depot(3, 1, [1, 1, 2, 3])
        desk = Desk(depot)
        desk.send([1], FAR)
        expected = least_day(desk.standing(), [2, 2, 0, 0])
        answer = desk.soonest(wish=(2, 2, 0, 0))
        self.same(answer, ("least", FAR + expected[1], expected[2]))
        self.assertGreater(answer[1], FAR)
        for many in (0, 3, 5):
            self.refused(BadWish, many, "length", desk.soonest, [9] * many)
        self.refused(BadWish, 1, "weekday", desk.soonest, [3, 4, -1, 0])

    def test_two_ways_to_the_same_desk(self):
        one, two = Desk(DEPOT), Desk(DEPOT)
        one.send([1])
        one.send([2])
        one.send([3], 2)
        one.set_goal(7, [1, 2, 2, 2])
        two.set_goal(9, first_row(DEPOT, 9))
        two.drop_goal()
        two.send_all([(1, [0]), (1, [2]), (1, [3]), (1, [3])])
        two.exchange(1, 0, 1)
        two.set_goal(5, [0, 1, 1, 3])
        two.set_goal(7, [1, 2, 2, 2])
        two.amend(4, [3])
        self.assertEqual(answers_of(one), answers_of(two))
        for days in range(3, 9):
            for passes in itertools.product(range(4), repeat=4):
                self.assertEqual(outcome(one.verdict, days, passes), outcome(two.verdict, days, passes))
        for runners in itertools.combinations(range(4), 1):
            self.assertEqual(one.can_send(runners), two.can_send(runners))
        two.undo()
        two.redo()
        self.assertEqual(answers_of(one), answers_of(two))

    def test_by_names(self):
        desk = Desk(DEPOT)
        self.assertIs(desk.can_send(runners=[1]), True)
        self.assertIs(desk.can_send(runners=[1], days=FAR), True)
        self.assertIs(desk.can_send([1], FAR + 1), False)
        desk.send_all(stretches=[(1, [1])])
        self.same(desk.verdict(days=1, passes=(0, 1, 0, 0)), ("possible",))

    def test_the_properties_cannot_be_set(self):
        desk = Desk(DEPOT)
        for name in ("today", "goal"):
            with self.assertRaises(AttributeError):
                setattr(desk, name, 1)

    def test_later_changes_have_no_effect(self):
        desk = Desk(DEPOT)
        runners, stretches, passes = [1], [[1, [2]], [2, [3]]], [1, 2, 2, 2]
        desk.send(runners)
        desk.send_all(stretches)
        desk.amend(1, runners)
        desk.set_goal(7, passes)
        before = answers_of(desk)
        runners.append(9)
        stretches[0][1].append(9)
        stretches.clear()
        passes.clear()
        self.assertEqual(answers_of(desk), before)
        desk.soonest([0, 0, 0, 0])[2].clear()
        self.assertEqual(answers_of(desk), before)


if __name__ == "__main__":
    unittest.main()
