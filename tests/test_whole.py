"""Points 1 to 4 over the whole program, and the names of the interface."""

import copy
import importlib
import inspect
import itertools
import unittest

from outagain.books import Book
from outagain.depots import Depot
from outagain.desk import Desk
from outagain.errors import (BadBook, BadBounds, BadCrews, BadDepot, BadLine, BadLists, BadLives, BadNotes, BadPasses,
                             BadWish, GoalLost, NoBook, NothingLeft, OutagainError, OutOfRange)
from outagain.walking import After, walk
from tests.support import FAR, PromiseTest

INTERFACE = """
depots Depot(period, quota, firsts)
depots Depot.weekday(self, morning)
depots Depot.closings(self, days)
depots Depot.last_weekday(self, days)
depots Depot.due_places(self, days)
depots Depot.begun(self, days)
depots Depot.from_places(period, quota, places)
books Book(stretches)
books Book.runners_on(self, morning)
books Book.head(self, days)
books Book.tail(self, days)
books Book.flipped(self)
books Book.rows(self)
books Book.of_rows(rows)
walking After.due(self)
walking After.standing(self)
walking walk(depot, book)
walking mornings(depot, book)
lives lives(depot, book)
lives book_of_lives(depot, days, rows)
judging judge(depot, days, passes)
judging possible(depot, days, passes)
judging reason_stands(depot, days, passes, reason)
judging all_reasons(depot, days, passes)
judging due_of(depot, passes)
crews crews_seen(depot, book)
crews crews_fault(depot, days, due, crews)
crews passes_of_crews(depot, days, due, crews)
deadlines book_of_crews(depot, days, due, crews)
longbooks crews_of_passes(depot, days, passes)
longbooks book_of_passes(depot, days, passes)
wishes reach(depot, days, wish)
wishes reach_stands(depot, days, wish, reason)
wishes day_rows(depot, wish)
wishes least_day(depot, wish)
wishes book_of_wish(depot, days, wish)
meetings meeting(depot, *drivers, home=False)
halfknown complete(depot, days, told)
halfknown told_stands(depot, days, told, reason)
passvalues pass_values(depot, days, told, driver)
passvalues settled(depot, days, told, driver)
passvalues misread(depot, days, passes)
passvalues exchanges(depot, days, passes)
passvalues mending(depot, days, passes)
passorder first_row(depot, days)
passorder last_row(depot, days)
passorder next_row(depot, days, passes)
passorder previous_row(depot, days, passes)
rownumbers number_of(depot, days, told)
rownumbers rank(depot, days, passes)
bounds within(depot, days, lows, highs)
bounds within_stands(depot, days, lows, highs, answer)
fairness most_for_all(depot, days)
fairness cap_for_all(depot, days)
fairness spread(depot, days)
joins linked(depot, *books)
joins cut(depot, book, days)
joins cut_passes(depot, days, passes, front)
joins turned(depot, days, passes)
mirrors mirrored(depot, book)
mirrors mirrored_depot(depot, days, passes)
merges merged(*depots)
merges merged_book(depots, books)
merges parted(depots, book)
merges renamed(depot, order)
merges renamed_book(depot, book, order)
notes fits(depot, days, passes, notes)
notes fits_stands(depot, days, passes, notes, answer)
notes agreeing(depot, days, passes, notes)
worlds asked(depot, days, passes, notes, closing, driver)
weeklists lead(depot, rows, days)
forever far(depot, rows, days)
forever rates(depot, rows)
forever widest(depot, rows)
forever parting(depot, rows, others)
toldback lists_of_book(depot, book)
desk Desk(depot)
desk Desk.send(self, runners, days=1)
desk Desk.send_all(self, stretches)
desk Desk.exchange(self, morning, one, other)
desk Desk.amend(self, morning, runners)
desk Desk.set_goal(self, days, passes)
desk Desk.drop_goal(self)
desk Desk.undo(self)
desk Desk.redo(self)
desk Desk.book(self)
desk Desk.after(self)
desk Desk.standing(self)
desk Desk.verdict(self, days, passes)
desk Desk.can_send(self, runners, days=1)
desk Desk.advice(self)
desk Desk.soonest(self, wish)
phrases read_script(text)
phrases write_script(statements)
scripts run_script(text)
""".split("\n")[1:-1]

DEPOT = Depot(3, 1, [1, 1, 2, 3])
BOOK = Book([(1, [1]), (1, [2]), (2, [3])])
LISTS = [[3, 2, 1, 0], [0, 1, 2, 3], [2, 0, 3, 1]]

# Good and bad values of parameters: what is raised for a bad one is told behind it.
DAYS = (7, FAR + 1, (OutOfRange, FAR + 1, "days"))
MANY_DAYS = (36, 35, (OutOfRange, 35, "days"))
LED_DAYS = (9, 401, (OutOfRange, 401, "days"))
PASSES = ([1, 2, 2, 2], [0, -1, 0, -1], (BadPasses, 1, "pass"))
TOLD = ([1, 2, None, None], [None, None, -1, None], (BadPasses, 2, "pass"))
DUE = ([2, 3, 1, 2], [2, 3, 0, 9], (BadWish, 2, "weekday"))
WISH = ([2, 0, 1, 0], [2, 0, 0, 4], (BadWish, 3, "weekday"))
CREWS = ([(1, [3]), (1, [2])], [(1, [3]), (0, [9])], (BadCrews, 1, "times"))
DRIVER = (3, 4, (OutOfRange, 4, "driver"))
WALKED = (BOOK, Book([(1, [1]), (1, [4])]), (BadBook, 1, "driver"))
NOTES = ([(1, 2, True)], [(1, 2, True), (3, 9, True)], (BadNotes, 1, "closing"))
CLOSING = (2, 3, (OutOfRange, 3, "closing"))
LOWS = ([9, 9, 9, 9], [9, 2, 9, 9], (BadBounds, 1, "low"))
HIGHS = ([9, 9, 9, 9], [9, 9, 8, 9], (BadBounds, 2, "high"))
ROWS = (LISTS, [LISTS[0], [0, 1, 2, 2], []], (BadLists, 2, "order"))
LIVES = ([[("L", 2)], [("D", 1), ("L", 1)], [("D", 1), ("L", 1)], [("D", 2)]], [[("L", 2)], [("D", 0)], [], []],
         (BadLives, 1, "piece"))
ORDER = ([2, 0, 3, 1], [2, 0, 2, 9], (BadWish, 2, "order"))
DEPOTS = ([Depot(2, 1, [1, 1, 2]), Depot(2, 1, [1, 2])], [DEPOT, Depot(2, 1, [1])], (BadDepot, 1, "period"))
BOOKS = ([Book([(2, [0])]), Book([(1, [0]), (1, [1])])], [Book([]), Book([]), Book([])], (BadBook, 3, "length"))
MERGED = (Book([(1, [0, 3]), (1, [0, 4])]), Book([(1, [0])]), (BadBook, 0, "count"))
FRONT = (3, 8, (OutOfRange, 8, "front"))
CUT = (3, 5, (OutOfRange, 5, "days"))
PERIOD = (3, 9, (BadDepot, 9, "period"))
QUOTA = (1, 13, (BadDepot, 13, "quota"))
FIRSTS = ([1, 1, 2, 3], [1, 1, 4, 0], (BadDepot, 2, "first"))
PLACES = ([1, 1, 1], [1, -1, -1], (BadDepot, 2, "place"))
STRETCHES = ([(1, [1]), (2, [3])], [(1, [1]), (0, [9, 9])], (BadBook, 1, "days"))
MORNING = (4, 5, (OutOfRange, 5, "morning"))
WEEK_MORNING = (4, 0, (OutOfRange, 0, "morning"))
TEXT = ("depot 3 1 1 1 2 3\nsend 1 1\nask due", "depot 3 1 1\nno", (BadLine, 2, "word"))
STATEMENTS = ([("depot", 3, 1, (1, 1)), ("ask", "number", 7, (None, 2))], None, None)


def free(value):
    """A parameter for which nothing is raised."""
    return (value, None, None)


CALLS = {
    "depots.Depot": (PERIOD, QUOTA, FIRSTS),
    "depots.Depot.from_places": (PERIOD, QUOTA, PLACES),
    "books.Book": (STRETCHES,),
    "books.Book.of_rows": (([[1], [3]], [[1], [3, 3]], (BadBook, 1, "runners")),),
    "walking.walk": (free(DEPOT), WALKED),
    "lives.lives": (free(DEPOT), WALKED),
    "lives.book_of_lives": (free(DEPOT), (4, -1, (OutOfRange, -1, "days")), LIVES),
    "judging.judge": (free(DEPOT), DAYS, PASSES),
    "judging.possible": (free(DEPOT), DAYS, PASSES),
    "judging.reason_stands": (free(DEPOT), DAYS, PASSES, free(("sum", 8, 7))),
    "judging.all_reasons": (free(DEPOT), DAYS, PASSES),
    "judging.due_of": (free(DEPOT), PASSES),
    "crews.crews_seen": (free(DEPOT), WALKED),
    "crews.crews_fault": (free(DEPOT), DAYS, DUE, CREWS),
    "crews.passes_of_crews": (free(DEPOT), DAYS, DUE, CREWS),
    "deadlines.book_of_crews": (free(DEPOT), DAYS, DUE, CREWS),
    "longbooks.crews_of_passes": (free(DEPOT), DAYS, PASSES),
    "longbooks.book_of_passes": (free(DEPOT), DAYS, PASSES),
    "wishes.reach": (free(DEPOT), DAYS, WISH),
    "wishes.reach_stands": (free(DEPOT), DAYS, WISH, free(("crowd", 1, 2, 1))),
    "wishes.day_rows": (free(DEPOT), WISH),
    "wishes.least_day": (free(DEPOT), WISH),
    "wishes.book_of_wish": (free(DEPOT), DAYS, WISH),
    "meetings.meeting": (free(DEPOT), (2, 4, (OutOfRange, 4, "driver")), (3, -1, (OutOfRange, -1, "driver"))),
    "halfknown.complete": (free(DEPOT), DAYS, TOLD),
    "halfknown.told_stands": (free(DEPOT), DAYS, TOLD, free(("more", 2, 1))),
    "passvalues.pass_values": (free(DEPOT), DAYS, TOLD, DRIVER),
    "passvalues.settled": (free(DEPOT), DAYS, TOLD, DRIVER),
    "passvalues.misread": (free(DEPOT), DAYS, PASSES),
    "passvalues.exchanges": (free(DEPOT), DAYS, PASSES),
    "passvalues.mending": (free(DEPOT), DAYS, PASSES),
    "passorder.first_row": (free(DEPOT), DAYS),
    "passorder.last_row": (free(DEPOT), DAYS),
    "passorder.next_row": (free(DEPOT), DAYS, PASSES),
    "passorder.previous_row": (free(DEPOT), DAYS, PASSES),
    "rownumbers.number_of": (free(DEPOT), DAYS, TOLD),
    "rownumbers.rank": (free(DEPOT), DAYS, PASSES),
    "bounds.within": (free(DEPOT), MANY_DAYS, LOWS, HIGHS),
    "bounds.within_stands": (free(DEPOT), MANY_DAYS, LOWS, HIGHS, free(("passes", [9, 9, 9, 9]))),
    "fairness.most_for_all": (free(DEPOT), MANY_DAYS),
    "fairness.cap_for_all": (free(DEPOT), MANY_DAYS),
    "fairness.spread": (free(DEPOT), MANY_DAYS),
    "joins.linked": (free(DEPOT), WALKED, (Book([(1, [1])]), Book([(1, [0])]), (BadBook, 0, "away"))),
    "joins.cut": (free(DEPOT), WALKED, CUT),
    "joins.cut_passes": (free(DEPOT), DAYS, PASSES, FRONT),
    "joins.turned": (free(DEPOT), DAYS, PASSES),
    "mirrors.mirrored": (free(DEPOT), WALKED),
    "mirrors.mirrored_depot": (free(DEPOT), DAYS, PASSES),
    "merges.merged": (free(DEPOTS[0][0]), free(DEPOTS[0][1]), (DEPOTS[0][1], DEPOT, (BadDepot, 2, "period"))),
    "merges.merged_book": (DEPOTS, BOOKS),
    "merges.parted": (DEPOTS, MERGED),
    "merges.renamed": (free(DEPOT), ORDER),
    "merges.renamed_book": (free(DEPOT), WALKED, ORDER),
    "notes.fits": (free(DEPOT), DAYS, PASSES, NOTES),
    "notes.fits_stands": (free(DEPOT), DAYS, PASSES, NOTES, free(("fits", [(1, (2,)), (1, (3,))]))),
    "notes.agreeing": (free(DEPOT), DAYS, PASSES, NOTES),
    "worlds.asked": (free(DEPOT), DAYS, PASSES, NOTES, CLOSING, DRIVER),
    "weeklists.lead": (free(DEPOT), ROWS, LED_DAYS),
    "forever.far": (free(DEPOT), ROWS, DAYS),
    "forever.rates": (free(DEPOT), ROWS),
    "forever.widest": (free(DEPOT), ROWS),
    "forever.parting": (free(DEPOT), ROWS, ([[0, 1, 2, 3]] * 3, [[0]], (BadLists, 1, "length"))),
    "toldback.lists_of_book": (free(DEPOT), WALKED),
    "phrases.read_script": (TEXT,),
    "phrases.write_script": (STATEMENTS,),
    "scripts.run_script": (TEXT,),
}

# The deeds and questions of a desk that has the book of above, and those methods of other objects that take something.
METHODS = {
    "depots.Depot.weekday": (DEPOT, WEEK_MORNING),
    "depots.Depot.closings": (DEPOT, DAYS),
    "depots.Depot.last_weekday": (DEPOT, DAYS),
    "depots.Depot.due_places": (DEPOT, DAYS),
    "depots.Depot.begun": (DEPOT, DAYS),
    "books.Book.runners_on": (BOOK, MORNING),
    "books.Book.head": (BOOK, CUT),
    "books.Book.tail": (BOOK, CUT),
    "desk.Desk.send": (None, ([1], [3, 3], (BadBook, 0, "runners"))),
    "desk.Desk.send_all": (None, ([(1, [1])], [(1, [1]), (0, [9, 9])], (BadBook, 1, "days"))),
    "desk.Desk.exchange": (None, (2, 5, (OutOfRange, 5, "morning")), (1, 4, (OutOfRange, 4, "driver")),
                           (2, -1, (OutOfRange, -1, "driver"))),
    "desk.Desk.amend": (None, MORNING, ([0], [3, 1], (BadBook, 0, "runners"))),
    "desk.Desk.set_goal": (None, (7, 3, (OutOfRange, 3, "days")), PASSES),
    "desk.Desk.verdict": (None, (7, 3, (OutOfRange, 3, "days")), PASSES),
    "desk.Desk.can_send": (None, free([2])),
    "desk.Desk.soonest": (None, WISH),
}


def found(name):
    """What stands under a name such as "depots.Depot.from_places"."""
    module, *names = name.split(".")
    value = importlib.import_module("outagain." + module)
    for part in names:
        value = getattr(value, part)
    return value


def desk_with_book():
    desk = Desk(DEPOT)
    desk.send_all(BOOK.stretches)
    return desk


def calls():
    """Tuples (name, what is called, its parameters) of the whole interface."""
    for name, parameters in CALLS.items():
        yield name, found(name), parameters
    for name, (owner, *parameters) in METHODS.items():
        def call(*args, owner=owner, method=name.split(".")[-1]):
            return getattr(owner or desk_with_book(), method)(*args)
        yield name, call, parameters


def with_bad(parameters, at):
    """Arguments of which just this one is bad."""
    return [bad if k == at else good for k, (good, bad, _) in enumerate(parameters)]


def as_kind(kind, value):
    """The value with all its lists and tuples of this kind."""
    return kind(as_kind(kind, part) for part in value) if isinstance(value, (list, tuple)) else value


def plain(value):
    """What an answer tells, without the objects in it."""
    if isinstance(value, (list, tuple)):
        return type(value)(plain(part) for part in value)
    if isinstance(value, Book):
        return ("book", value.stretches)
    if isinstance(value, Depot):
        return ("depot", value.period, value.quota, value.firsts)
    if isinstance(value, After):
        return ("after", value.days, value.passes, value.longs, value.nexts, value.due(), plain(value.standing()))
    return value


def spoil(value):
    """Change all lists in a value."""
    if isinstance(value, (list, tuple)):
        for part in value:
            spoil(part)
    if isinstance(value, list):
        value.append("spoilt")
        value.reverse()


class InterfaceTest(PromiseTest):
    def test_names_and_parameters(self):
        for line in INTERFACE:
            module, told = line.split(" ", 1)
            name, parameters = told[:-1].split("(")
            value = found(module + "." + name)
            kind = inspect.isclass(value)
            self.assertEqual(value.__module__, "outagain." + module, line)
            signature = inspect.signature(value.__init__ if kind else value)
            names = str(signature)[1:-1]
            self.assertEqual(names, ("self, " if kind else "") + parameters, line)
            if "." in name:
                owner, method = name.split(".")
                self.assertIn(method, vars(found(module + "." + owner)))

    def test_every_function_stands_in_a_table(self):
        told = {line.split("(")[0].replace(" ", ".") for line in INTERFACE}
        without_parameters = {line.split("(")[0].replace(" ", ".") for line in INTERFACE if line.endswith("(self)")}
        left = told - set(CALLS) - set(METHODS) - without_parameters
        self.assertEqual(left, {"walking.mornings", "desk.Desk"})

    def test_class_values_and_properties(self):
        self.same((Depot.MOST_PERIOD, Depot.MOST_DRIVERS), (8, 12))
        for kind, names in ((Depot, ("size", "places")), (Desk, ("today", "goal"))):
            for name in names:
                self.assertIs(type(vars(kind)[name]), property)
        self.assertIs(type(vars(Depot)["from_places"]), classmethod)
        self.assertIs(type(vars(Book)["of_rows"]), staticmethod)
        for kind, names in ((Depot, ("__eq__",)), (Book, ("__eq__", "__add__", "__iter__"))):
            for name in names:
                self.assertIn(name, vars(kind))
        self.assertTrue(inspect.isgeneratorfunction(found("walking.mornings")))


class ArgumentsTest(PromiseTest):
    def test_checked_from_the_first_to_the_last_each_completely_before_the_next(self):
        for name, call, parameters in calls():
            for at, (_, _, error) in enumerate(parameters):
                if error is None:
                    continue
                front = [good for good, _, _ in parameters[:at]]
                # All later ones may be bad or good, and those ahead are good.
                later = [[good] if other is None else [good, bad] for good, bad, other in parameters[at + 1:]]
                for rear in itertools.product(*later):
                    with self.subTest(name=name, at=at):
                        self.refused(*error, call, *front, parameters[at][1], *rear)

    def test_good_ones_are_taken(self):
        for name, call, parameters in calls():
            with self.subTest(name=name):
                call(*[good for good, _, _ in parameters])

    def test_no_argument_is_modified(self):
        for name, call, parameters in calls():
            for at in range(len(parameters) + 1):
                args = [as_kind(list, good if k < at or bad is None else bad) if not name.endswith("stands") or k < 4
                        else good for k, (good, bad, _) in enumerate(parameters)]
                before = plain(copy.deepcopy(args))
                with self.subTest(name=name):
                    try:
                        call(*args)
                    except OutagainError:
                        pass
                    self.assertEqual(plain(args), before)

    def test_lists_and_tuples_are_answered_alike(self):
        for name, call, parameters in calls():
            if name.endswith("stands"):
                continue
            with self.subTest(name=name):
                answers = [plain(call(*[as_kind(kind, good) for good, _, _ in parameters])) for kind in (list, tuple)]
                self.same(answers[0], answers[1])

    def test_later_changes_have_no_effect(self):
        for name, call, parameters in calls():
            with self.subTest(name=name):
                args = [as_kind(list, good) if not name.endswith("stands") else copy.deepcopy(good)
                        for good, _, _ in parameters]
                answer = call(*args)
                before = copy.deepcopy(plain(answer))
                spoil(args)
                self.assertEqual(plain(answer), before)
                spoil(answer)
                again = call(*[copy.deepcopy(good) if isinstance(good, list) else good for good, _, _ in parameters])
                self.same(plain(again), before)

    def test_desks_keep_what_they_have(self):
        desk = desk_with_book()
        stretches, passes = [[1, [1]], [1, [1]]], [0, 4, 1, 2]
        desk.send_all(stretches)
        desk.set_goal(7, passes)
        before = (desk.book().stretches, desk.goal, desk.after().passes)
        spoil(stretches)
        spoil(passes)
        spoil(desk.goal)
        self.same((desk.book().stretches, desk.goal, desk.after().passes), before)

    def test_depots_books_and_afters_never_change(self):
        for name in ("size", "places"):
            with self.assertRaises(AttributeError):
                setattr(DEPOT, name, 1)
        after = walk(DEPOT, BOOK)
        for value in (DEPOT.firsts, DEPOT.places, BOOK.stretches, after.passes, after.longs, after.nexts, after.due()):
            self.assertIs(type(value), tuple)


class ErrorsTest(PromiseTest):
    def test_each_class_is_raised_with_its_kinds(self):
        raised = set()
        for _, call, parameters in calls():
            for at, (_, _, error) in enumerate(parameters):
                if error is not None:
                    with self.assertRaises(OutagainError) as caught:
                        call(*with_bad(parameters, at))
                    raised.add(type(caught.exception))
                    self.assertIs(type(caught.exception.at), int)
                    self.assertIs(type(caught.exception.code), str)
                    self.assertIsInstance(caught.exception, ValueError)
        self.assertEqual(raised, {OutOfRange, BadDepot, BadBook, BadLives, BadPasses, BadCrews, BadWish, BadBounds,
                                  BadNotes, BadLists, BadLine})

    def test_reasons(self):
        impossible = [2, 0, 4, 2]
        for name in ("longbooks.crews_of_passes", "longbooks.book_of_passes", "joins.turned", "mirrors.mirrored_depot"):
            with self.assertRaises(NoBook) as caught:
                found(name)(DEPOT, 7, impossible)
            self.assertIs(type(caught.exception.reason), tuple)
        desk = desk_with_book()
        desk.set_goal(4, (0, 1, 1, 2))
        self.no_book(GoalLost, ("days",), desk.send, [1])
        with self.assertRaises(NothingLeft) as caught:
            desk.redo()
        self.assertFalse(hasattr(caught.exception, "reason"))

    def test_a_call_that_raises_changes_nothing(self):
        desk = desk_with_book()
        desk.set_goal(7, [1, 2, 2, 2])
        desk.undo()
        before = (desk.book().stretches, desk.goal, desk.after().nexts)
        for name, (owner, *parameters) in METHODS.items():
            if owner is None:
                for at, (_, _, error) in enumerate(parameters):
                    if error is not None:
                        self.refused(*error, getattr(desk, name.split(".")[-1]), *with_bad(parameters, at))
        self.same((desk.book().stretches, desk.goal, desk.after().nexts), before)
        desk.redo()
        self.same(desk.goal, (7, (1, 2, 2, 2)))


if __name__ == "__main__":
    unittest.main()
