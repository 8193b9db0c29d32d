"""The examples of the document, with just the answers that it gives."""

import unittest

import outagain.errors

DEPOTS = """
>>> from outagain.depots import Depot
>>> depot = Depot(3, 1, [1, 1, 2, 3])
>>> [depot.size, depot.places, depot.weekday(8), depot.closings(7), depot.last_weekday(7), depot.due_places(7), depot.begun(7)]
[4, (1, 1, 1), 2, 2, 2, (1, 2, 1), 7]

>>> from outagain.depots import Depot
>>> Depot(3, 1, [1, 4, 0])
raises BadDepot(1, "first")
"""

BOOKS = """
>>> from outagain.books import Book
>>> book = Book([(2, [1]), (1, [1]), (3, [0, 2])])
>>> [book.stretches, book.days, book.runners_on(3), book.head(4).stretches, book.tail(4).stretches]
[((3, (1,)), (3, (0, 2))), 6, (1,), ((3, (1,)), (1, (0, 2))), ((2, (0, 2)),)]
"""

WALKING = """
>>> from outagain.depots import Depot
>>> from outagain.books import Book
>>> from outagain.walking import walk
>>> book = Book.of_rows([[1], [2], [3], [3], [1], [2], [0]])
>>> after = walk(Depot(3, 1, [1, 1, 2, 3]), book)
>>> [after.passes, after.longs, after.nexts, after.due(), after.standing().firsts]
[(1, 2, 2, 2), (2, 2, 2, 1), (8, 9, 10, 8), (2, 3, 1, 2), (1, 2, 3, 1)]
"""

LIVES = """
>>> from outagain.depots import Depot
>>> from outagain.books import Book
>>> from outagain.lives import lives
>>> lives(Depot(3, 1, [1, 1, 2, 3]), Book.of_rows([[1], [2], [3], [3]]))
[[('L', 2)], [('D', 1), ('L', 1)], [('D', 1), ('L', 1)], [('D', 2)]]
"""

JUDGING = """
>>> from outagain.depots import Depot
>>> from outagain.judging import judge
>>> depot = Depot(3, 1, [1, 1, 2, 3])
>>> [judge(depot, 7, [1, 2, 2, 2]), judge(depot, 7, [2, 0, 4, 1]), judge(depot, 7, [2, 0, 4, 2])]
[('possible',), ('weekday', 1, 2, 1), ('sum', 8, 7)]
"""

DEADLINES = """
>>> from outagain.depots import Depot
>>> from outagain.deadlines import book_of_crews
>>> from outagain.walking import walk
>>> depot = Depot(3, 1, [1, 1, 2, 3])
>>> walk(depot, book_of_crews(depot, 7, [2, 3, 1, 2], [(1, [3]), (1, [2])])).passes
(1, 2, 2, 2)

>>> from outagain.depots import Depot
>>> from outagain.crews import crews_fault
>>> depot = Depot(3, 1, [1, 1, 2, 3])
>>> [crews_fault(depot, 7, [2, 3, 1, 2], [(2, [3])]), crews_fault(depot, 7, [3, 2, 2, 1], [(1, [3]), (1, [0])])]
[('back', 2), ('last', 0)]
"""

LONGBOOKS = """
>>> from outagain.depots import Depot
>>> from outagain.longbooks import book_of_passes
>>> from outagain.walking import walk
>>> depot = Depot(3, 1, [1, 1, 2, 3])
>>> after = walk(depot, book_of_passes(depot, 3 * 10 ** 20, [10 ** 20 * 3 - 3, 0, 3, 0]))
>>> [after.days, after.passes]
[300000000000000000000, (299999999999999999997, 0, 3, 0)]
"""


class ExampleTest(unittest.TestCase):
    def hold(self, text):
        for block in text.strip().split("\n\n"):
            *before, last, told = block.split("\n")
            names = {}
            for line in before:
                exec(line.removeprefix(">>> "), names)
            if told.startswith("raises "):
                self.raises(last.removeprefix(">>> "), told.removeprefix("raises "), names)
            else:
                self.assertEqual(repr(eval(last.removeprefix(">>> "), names)), told)

    def raises(self, line, told, names):
        expected = eval(told, dict(vars(outagain.errors)))
        with self.assertRaises(type(expected)) as caught:
            exec(line, names)
        self.assertIs(type(caught.exception), type(expected))
        self.assertEqual(vars(caught.exception), vars(expected))

    def test_depots(self):
        self.hold(DEPOTS)

    def test_books(self):
        self.hold(BOOKS)

    def test_walking(self):
        self.hold(WALKING)

    def test_lives(self):
        self.hold(LIVES)

    def test_judging(self):
        self.hold(JUDGING)

    def test_deadlines(self):
        self.hold(DEADLINES)

    def test_longbooks(self):
        self.hold(LONGBOOKS)


if __name__ == "__main__":
    unittest.main()
