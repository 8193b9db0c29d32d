"""The examples of the document, with just the answers that it gives."""

import unittest

import outagain.errors

DEPOTS = """
>>> from outagain.depots import Depot
>>> depot = Depot(3, 1, [1, 1, 2, 3])
>>> [depot.size, depot.places, depot.weekday(8), depot.closings(7), depot.last_weekday(7), depot.due_places(7), depot.begun(7)]
[4, (1, 1, 1), 2, 2, 2, (1, 2, 1), 7]

>>> from outagain.depots import Depot
>>> Depot(3, 1, [1, 4, 0])
raises BadDepot(1, "first")
"""

BOOKS = """
>>> from outagain.books import Book
>>> book = Book([(2, [1]), (1, [1]), (3, [0, 2])])
>>> [book.stretches, book.days, book.runners_on(3), book.head(4).stretches, book.tail(4).stretches]
[((3, (1,)), (3, (0, 2))), 6, (1,), ((3, (1,)), (1, (0, 2))), ((2, (0, 2)),)]
"""

WALKING = """
>>> from outagain.depots import Depot
>>> from outagain.books import Book
>>> from outagain.walking import walk
>>> book = Book.of_rows([[1], [2], [3], [3], [1], [2], [0]])
>>> after = walk(Depot(3, 1, [1, 1, 2, 3]), book)
>>> [after.passes, after.longs, after.nexts, after.due(), after.standing().firsts]
[(1, 2, 2, 2), (2, 2, 2, 1), (8, 9, 10, 8), (2, 3, 1, 2), (1, 2, 3, 1)]
"""

LIVES = """
>>> from outagain.depots import Depot
>>> from outagain.books import Book
>>> from outagain.lives import lives
>>> lives(Depot(3, 1, [1, 1, 2, 3]), Book.of_rows([[1], [2], [3], [3]]))
[[('L', 2)], [('D', 1), ('L', 1)], [('D', 1), ('L', 1)], [('D', 2)]]
"""

JUDGING = """
>>> from outagain.depots import Depot
>>> from outagain.judging import judge
>>> depot = Depot(3, 1, [1, 1, 2, 3])
>>> [judge(depot, 7, [1, 2, 2, 2]), judge(depot, 7, [2, 0, 4, 1]), judge(depot, 7, [2, 0, 4, 2])]
[('possible',), ('weekday', 1, 2, 1), ('sum', 8, 7)]
"""

DEADLINES = """
>>> from outagain.depots import Depot
>>> from outagain.deadlines import book_of_crews
>>> from outagain.walking import walk
>>> depot = Depot(3, 1, [1, 1, 2, 3])
>>> walk(depot, book_of_crews(depot, 7, [2, 3, 1, 2], [(1, [3]), (1, [2])])).passes
(1, 2, 2, 2)

>>> from outagain.depots import Depot
>>> from outagain.crews import crews_fault
>>> depot = Depot(3, 1, [1, 1, 2, 3])
>>> [crews_fault(depot, 7, [2, 3, 1, 2], [(2, [3])]), crews_fault(depot, 7, [3, 2, 2, 1], [(1, [3]), (1, [0])])]
[('back', 2), ('last', 0)]
"""

LONGBOOKS = """
>>> from outagain.depots import Depot
>>> from outagain.longbooks import book_of_passes
>>> from outagain.walking import walk
>>> depot = Depot(3, 1, [1, 1, 2, 3])
>>> after = walk(depot, book_of_passes(depot, 3 * 10 ** 20, [10 ** 20 * 3 - 3, 0, 3, 0]))
>>> [after.days, after.passes]
[300000000000000000000, (299999999999999999997, 0, 3, 0)]
"""

WISHES = """
>>> from outagain.depots import Depot
>>> from outagain.wishes import reach, day_rows, least_day
>>> depot = Depot(3, 1, [1, 1, 2, 3])
>>> [reach(depot, 4, [2, 2, 1, 3]), reach(depot, 1, [2, 2, 1, 3])[0], least_day(depot, [2, 2, 1, 3])]
[('reached', [2, 2, 1, 3]), 'closings', ('least', 4, [2, 2, 1, 3])]

>>> from outagain.depots import Depot
>>> from outagain.wishes import day_rows
>>> day_rows(Depot(3, 1, [1, 1, 2, 3]), [2, 2, 1, 3])
[('crowd', 1, 2, 2, 1), ('from', 2, 4), ('crowd', 3, 2, 2, 1)]
"""

MEETINGS = """
>>> from outagain.depots import Depot
>>> from outagain.meetings import meeting
>>> depot = Depot(3, 1, [1, 1, 2, 3])
>>> [meeting(depot, 2, 3)[:3], meeting(depot, 0, 1, home=True)[:3], meeting(depot, 0, 1, 2)]
[('least', 2, 3), ('least', 0, 1), ('never', 2)]
"""

PASSVALUES = """
>>> from outagain.depots import Depot
>>> from outagain.passvalues import pass_values, settled, misread, exchanges
>>> depot = Depot(3, 1, [1, 1, 2, 3])
>>> [pass_values(depot, 7, [1, 2, None, None], 2), settled(depot, 7, [1, 2, 2, None], 3)]
[[(1, 2, 2), (2, 0, 3)], ('sure', 2)]

>>> from outagain.depots import Depot
>>> from outagain.passvalues import misread, exchanges, mending
>>> depot = Depot(3, 1, [1, 1, 2, 3])
>>> [misread(depot, 7, [1, 2, 2, 3]), exchanges(depot, 7, [2, 1, 2, 2]), mending(depot, 7, [1, 2, 2, 3])[0]]
[[(1, 1), (3, 2)], [(0, 1)], 1]
"""

PASSORDER = """
>>> from outagain.depots import Depot
>>> from outagain.passorder import first_row, last_row, next_row, previous_row
>>> depot = Depot(3, 1, [1, 1, 2, 3])
>>> [first_row(depot, 7), last_row(depot, 7), next_row(depot, 7, [1, 2, 2, 2]), previous_row(depot, 7, [1, 2, 2, 2])]
[[0, 1, 1, 5], [7, 0, 0, 0], [1, 2, 3, 1], [1, 2, 0, 4]]
"""

ROWNUMBERS = """
>>> from outagain.depots import Depot
>>> from outagain.rownumbers import number_of, rank
>>> depot = Depot(3, 1, [1, 1, 2, 3])
>>> [number_of(depot, 7, [None, None, None, None]), rank(depot, 7, [1, 2, 2, 2]), number_of(depot, 7, [1, 2, None, None])]
[52, 20, 3]
"""

BOUNDS = """
>>> from outagain.depots import Depot
>>> from outagain.bounds import within
>>> depot = Depot(3, 1, [1, 1, 2, 3])
>>> [within(depot, 36, [9, 9, 9, 9], [9, 9, 9, 9]), within(depot, 36, [10, 9, 9, 9], [12, 12, 12, 12])[0]]
[('passes', [9, 9, 9, 9]), 'least']
"""

FAIRNESS = """
>>> from outagain.depots import Depot
>>> from outagain.fairness import most_for_all, spread
>>> depot = Depot(3, 1, [1, 1, 2, 3])
>>> [most_for_all(depot, 36)[:2], spread(depot, 36)]
[(9, [9, 9, 9, 9]), (0, [9, 9, 9, 9], [])]
"""

JOINS = """
>>> from outagain.depots import Depot
>>> from outagain.joins import turned, linked
>>> from outagain.books import Book
>>> depot = Depot(3, 1, [1, 1, 2, 3])
>>> [turned(depot, 7, [1, 2, 2, 2]).firsts, linked(depot, Book([(1, [1])]), Book([(2, [1])])).passes]
[(1, 2, 3, 1), (0, 3, 0, 0)]
"""

MIRRORS = """
>>> from outagain.depots import Depot
>>> from outagain.mirrors import mirrored_depot
>>> mirrored_depot(Depot(3, 1, [1, 1, 2, 3]), 7, [1, 2, 2, 2]).firsts
(1, 3, 2, 1)
"""

MERGES = """
>>> from outagain.depots import Depot
>>> from outagain.books import Book
>>> from outagain.merges import merged, merged_book, renamed
>>> one = Depot(2, 1, [1, 1, 2])
>>> two = Depot(2, 1, [1, 2])
>>> both = merged_book([one, two], [Book([(2, [0])]), Book([(1, [0]), (1, [1])])])
>>> [merged(one, two).firsts, both.stretches, renamed(one, [2, 0, 1]).firsts]
[(1, 1, 2, 1, 2), ((1, (0, 3)), (1, (0, 4))), (2, 1, 1)]
"""

WORLDS = """
>>> from outagain.depots import Depot
>>> from outagain.notes import fits, agreeing
>>> from outagain.worlds import asked
>>> depot = Depot(3, 1, [1, 1, 2, 3])
>>> fits(depot, 7, [1, 2, 2, 2], [(1, 2, True)])
('fits', [(1, (2,)), (1, (3,))])

>>> from outagain.depots import Depot
>>> from outagain.notes import fits, agreeing
>>> from outagain.worlds import asked
>>> depot = Depot(3, 1, [1, 1, 2, 3])
>>> [asked(depot, 7, [1, 2, 2, 2], [], 2, 2)[0], asked(depot, 7, [1, 2, 2, 2], [(1, 2, True)], 2, 3)[0], agreeing(depot, 7, [1, 2, 2, 2], [(1, 2, True), (2, 2, True)])[0]]
['open', 'always', 1]
"""

TOLDBACK = """
>>> from outagain.depots import Depot
>>> from outagain.forever import far, widest, parting
>>> depot = Depot(3, 1, [1, 1, 2, 3])
>>> rows = [[0, 1, 2, 3], [0, 1, 2, 3], [0, 1, 2, 3]]
>>> others = [[0, 1, 2, 3], [3, 2, 1, 0], [0, 1, 2, 3]]
>>> [far(depot, rows, 9), widest(depot, rows), parting(depot, rows, others)]
[((9, 0, 0, 0), (10, 10, 11, 12)), ('endless', 0, 1), ('part', 2)]
"""

DESK = """
>>> from outagain.depots import Depot
>>> from outagain.desk import Desk
>>> desk = Desk(Depot(3, 1, [1, 1, 2, 3]))
>>> desk.send([1])
>>> desk.set_goal(7, [1, 2, 2, 2])
>>> desk.send_all([(1, [2]), (2, [3])])
>>> after = desk.after()
>>> desk.undo()
>>> [after.passes, desk.today, desk.goal, desk.can_send([0]), desk.can_send([2])]
[(0, 1, 1, 2), 1, (7, (1, 2, 2, 2)), False, True]

>>> from outagain.depots import Depot
>>> from outagain.desk import Desk
>>> desk = Desk(Depot(3, 1, [1, 1, 2, 3]))
>>> desk.send([1])
>>> desk.set_goal(7, [0, 1, 1, 5])
>>> desk.exchange(1, 0, 1)
raises GoalLost(('gone', 0))

>>> from outagain.depots import Depot
>>> from outagain.desk import Desk
>>> desk = Desk(Depot(3, 1, [1, 1, 2, 3]))
>>> desk.send([1])
>>> desk.exchange(1, 0, 1)
>>> desk.redo()
raises NothingLeft
"""

PHRASES = """
>>> from outagain.phrases import read_script
>>> read_script("depot 3 1 1 1 2 3\\nsend 2 0\\nask number 7 1 - - 2")
[('depot', 3, 1, (1, 1, 2, 3)), ('send', 2, (0,)), ('ask', 'number', 7, (1, None, None, 2))]

>>> from outagain.phrases import read_script
>>> read_script("depot 3 1 1 1 2 3\\nsend 02 0")
raises BadLine(2, "number")
"""

SCRIPTS = """
>>> from outagain.scripts import run_script
>>> run_script("depot 3 1 1 1 2 3\\nsend 1 1\\nask due\\nsend 1 3\\nundo\\nask days\\nask soonest 2 2 1 3\\nask values 7 2 1 2 - -")
['due 1 2 2 3', 'refused away', 'days 0', 'soonest 4', 'values 1:2-2 2:0-3']
"""


class ExampleTest(unittest.TestCase):
    def hold(self, text):
        for block in text.strip().split("\n\n"):
            *before, last, told = block.split("\n")
            names = {}
            for line in before:
                exec(line.removeprefix(">>> "), names)
            if told.startswith("raises "):
                self.raises(last.removeprefix(">>> "), told.removeprefix("raises "), names)
            else:
                self.assertEqual(repr(eval(last.removeprefix(">>> "), names)), told)

    def raises(self, line, told, names):
        expected = eval(told if told.endswith(")") else told + "()", dict(vars(outagain.errors)))
        with self.assertRaises(type(expected)) as caught:
            exec(line, names)
        self.assertIs(type(caught.exception), type(expected))
        self.assertEqual(vars(caught.exception), vars(expected))

    def test_depots(self):
        self.hold(DEPOTS)

    def test_books(self):
        self.hold(BOOKS)

    def test_walking(self):
        self.hold(WALKING)

    def test_lives(self):
        self.hold(LIVES)

    def test_judging(self):
        self.hold(JUDGING)

    def test_deadlines(self):
        self.hold(DEADLINES)

    def test_longbooks(self):
        self.hold(LONGBOOKS)

    def test_wishes(self):
        self.hold(WISHES)

    def test_meetings(self):
        self.hold(MEETINGS)

    def test_passvalues(self):
        self.hold(PASSVALUES)

    def test_passorder(self):
        self.hold(PASSORDER)

    def test_rownumbers(self):
        self.hold(ROWNUMBERS)

    def test_bounds(self):
        self.hold(BOUNDS)

    def test_fairness(self):
        self.hold(FAIRNESS)

    def test_joins(self):
        self.hold(JOINS)

    def test_mirrors(self):
        self.hold(MIRRORS)

    def test_merges(self):
        self.hold(MERGES)

    def test_worlds(self):
        self.hold(WORLDS)

    def test_toldback(self):
        self.hold(TOLDBACK)

    def test_desk(self):
        self.hold(DESK)

    def test_phrases(self):
        self.hold(PHRASES)

    def test_scripts(self):
        self.hold(SCRIPTS)


if __name__ == "__main__":
    unittest.main()
