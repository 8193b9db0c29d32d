"""Point 8 and the books of the interface."""

import unittest

from outagain.books import Book
from outagain.errors import BadBook, OutOfRange
from tests.counting import joined
from tests.support import FAR, PromiseTest, alternating, new_dice


def random_rows(dice, days):
    """Runners of so many days, often the same ones as on the day before."""
    rows = [(0,)] * days
    for at in range(days):
        again = at > 0 and dice.random() < 0.5
        rows[at] = rows[at - 1] if again else tuple(sorted(dice.sample(range(12), dice.randint(0, 3))))
    return rows


def as_stretches(rows):
    return tuple(joined(rows))


class CreatingTest(PromiseTest):
    def test_attributes(self):
        book = Book([(2, [1, 5]), (3, [0, 11])])
        self.same((book.stretches, book.days), (((2, (1, 5)), (3, (0, 11))), 5))
        self.same(Book(stretches=[(1, [])]).stretches, ((1, ()),))

    def test_no_stretches(self):
        for empty in ([], ()):
            self.same((Book(empty).stretches, Book(empty).days), ((), 0))

    def test_lists_and_tuples(self):
        for stretches in ([[2, [1]], [1, [3]]], ((2, (1,)), (1, (3,))), [(2, [1]), [1, (3,)]]):
            self.same(Book(stretches).stretches, ((2, (1,)), (1, (3,))))

    def test_runners_at_the_bounds(self):
        everybody = list(range(12))
        self.same(Book([(1, everybody)]).stretches, ((1, tuple(everybody)),))
        self.same(Book([(1, [11]), (1, [0]), (1, [])]).stretches, ((1, (11,)), (1, (0,)), (1, ())))

    def test_equal_neighbours_are_joined(self):
        book = Book([(2, [1]), (1, (1,)), [4, [1]], (3, [0, 2]), (1, [1]), (1, []), (2, ())])
        self.same(book.stretches, ((7, (1,)), (3, (0, 2)), (1, (1,)), (3, ())))
        self.same(book.days, 14)

    def test_arguments_are_copied(self):
        runners = [1]
        stretch = [2, runners]
        stretches = [stretch, (1, [4])]
        book = self.untouched(Book, stretches)
        runners.append(2)
        stretch[0] = 9
        stretches.append((1, [7]))
        self.same(book.stretches, ((2, (1,)), (1, (4,))))
        self.same(book.days, 3)

    def test_joining_does_not_change_the_argument(self):
        self.untouched(Book, [[2, [1]], [3, [1]]])

    def test_399_400_and_401_stretches(self):
        for many in (399, 400):
            self.same(len(Book(alternating(many)).stretches), many)
        self.refused(BadBook, 400, "stretches", Book, alternating(401))
        self.refused(BadBook, 400, "stretches", Book, tuple(alternating(2000)))

    def test_stretches_are_counted_before_they_are_joined(self):
        self.same(Book([(1, [3])] * 399).stretches, ((399, (3,)),))
        self.same(Book([(1, [3])] * 400).stretches, ((400, (3,)),))
        self.refused(BadBook, 400, "stretches", Book, [(1, [3])] * 401)

    def test_stretches_ahead_of_all_else(self):
        self.refused(BadBook, 400, "stretches", Book, [(0, [3])] * 401)

    def test_days(self):
        for days in (0, -1, FAR + 1, -FAR, FAR ** 2):
            self.refused(BadBook, 0, "days", Book, [(days, [1])])
            self.refused(BadBook, 1, "days", Book, [(FAR, [1]), (days, [12]), (0, [2])])
        self.same(Book([(FAR, [1])]).days, FAR)

    def test_runners(self):
        for runners in ([12], [-1], [1, 0], [1, 1], [0, 12], [0, 1, 3, 2], [5, 4, 6], [FAR], [-FAR, 1], (3, 3)):
            self.refused(BadBook, 0, "runners", Book, [(1, runners)])
            self.refused(BadBook, 2, "runners", Book, [(FAR - 1, [1]), (1, [1]), (1, runners), (1, [])])

    def test_total(self):
        self.same(Book([(FAR - 1, [1]), (1, [2])]).days, FAR)
        self.same(Book([(FAR - 1, [1]), (1, [1])]).stretches, ((FAR, (1,)),))
        self.refused(BadBook, 1, "total", Book, [(FAR, [1]), (1, [2])])
        self.refused(BadBook, 1, "total", Book, [(FAR, [1]), (1, [1])])
        self.refused(BadBook, 2, "total", Book, [(FAR - 1, [1]), (1, [2]), (1, [1]), (0, [1])])
        self.refused(BadBook, 1, "total", Book, [(FAR, [1]), (FAR, [2]), (FAR, [3])])

    def test_each_stretch_completely_before_the_next(self):
        self.refused(BadBook, 0, "runners", Book, [(1, [12]), (0, [1])])
        self.refused(BadBook, 1, "total", Book, [(FAR, [1]), (1, [2]), (0, [12])])
        self.refused(BadBook, 1, "runners", Book, [(FAR, [1]), (1, [12])])
        self.refused(BadBook, 1, "days", Book, [(1, [1]), (0, [2, 1]), (1, [12])])


class EqualTest(PromiseTest):
    def test_equal(self):
        self.assertTrue(Book([(2, [1])]) == Book([(1, [1]), (1, (1,))]))
        self.assertFalse(Book([(2, [1])]) != Book([(1, [1]), (1, (1,))]))
        self.assertTrue(Book([]) == Book([]))

    def test_unequal(self):
        book = Book([(2, [1]), (1, [2])])
        for stretches in ([], [(2, [1])], [(2, [1]), (2, [2])], [(2, [1]), (1, [3])], [(1, [1]), (2, [2])],
                          [(1, [2]), (2, [1])], [(2, [1]), (1, [2]), (1, [1])]):
            self.assertFalse(book == Book(stretches))
            self.assertTrue(book != Book(stretches))

    def test_no_book(self):
        book = Book([(2, [1])])
        for other in (None, 2, "book", ((2, (1,)),), [(2, [1])], object()):
            self.assertFalse(book == other)
            self.assertFalse(other == book)


class IteratingTest(PromiseTest):
    def test_stretches_in_order(self):
        book = Book([(2, [1]), (1, [2]), (3, [1])])
        self.same(list(book), [(2, (1,)), (1, (2,)), (3, (1,))])
        self.same([stretch for stretch in book], list(book.stretches))
        self.same(list(Book([])), [])


class SumTest(PromiseTest):
    def test_one_behind_the_other(self):
        one, two = Book([(2, [1]), (1, [2])]), Book([(3, [2]), (1, [1])])
        both = one + two
        self.assertIs(type(both), Book)
        self.same((both.stretches, both.days), (((2, (1,)), (4, (2,)), (1, (1,))), 7))
        self.same((two + one).stretches, ((3, (2,)), (3, (1,)), (1, (2,))))
        self.same((one.stretches, two.stretches), (((2, (1,)), (1, (2,))), ((3, (2,)), (1, (1,)))))

    def test_with_an_empty_book(self):
        book, empty = Book([(2, [1])]), Book([])
        for both in (book + empty, empty + book):
            self.assertTrue(both == book)
        self.assertTrue(empty + empty == empty)

    def test_stretches(self):
        self.same(len((Book(alternating(200)) + Book(alternating(200))).stretches), 400)
        self.same(len((Book(alternating(201)) + Book(alternating(199))).stretches), 399)
        self.refused(BadBook, 400, "stretches", lambda: Book(alternating(200)) + Book(alternating(201)))
        self.refused(BadBook, 400, "stretches", lambda: Book(alternating(400)) + Book([(1, [5])]))

    def test_stretches_are_counted_before_they_are_joined(self):
        one, two = Book(alternating(201)), Book(alternating(200))
        self.refused(BadBook, 400, "stretches", lambda: one + two)
        self.refused(BadBook, 400, "stretches", lambda: Book(alternating(400)) + Book([(1, [1])]))
        self.same((Book([(1, [1])] * 300) + Book([(1, [1])] * 300)).stretches, ((600, (1,)),))

    def test_total(self):
        self.same((Book([(FAR - 1, [1])]) + Book([(1, [2])])).days, FAR)
        self.refused(BadBook, 0, "total", lambda: Book([(FAR, [1])]) + Book([(1, [2])]))
        self.refused(BadBook, 0, "total", lambda: Book([(1, [1]), (FAR - 1, [2])]) + Book([(1, [2]), (FAR - 1, [1])]))

    def test_stretches_ahead_of_total(self):
        days = FAR // 400
        one, two = Book(alternating(400, days)), Book(alternating(3, days))
        self.refused(BadBook, 400, "stretches", lambda: one + two)


class PartsTest(PromiseTest):
    def test_rows(self):
        self.same(Book([(2, [1]), (1, []), (2, [0, 3])]).rows(), [(1,), (1,), (), (0, 3), (0, 3)])
        self.same(Book([]).rows(), [])

    def test_rows_of_400_days(self):
        self.same(Book([(400, [1])]).rows(), [(1,)] * 400)
        self.same(Book(alternating(400)).rows(), [(0,), (1,)] * 200)
        self.refused(OutOfRange, 401, "days", Book([(401, [1])]).rows)
        self.refused(OutOfRange, 402, "days", Book([(200, [1]), (202, [2])]).rows)
        self.refused(OutOfRange, FAR, "days", Book([(FAR, [1])]).rows)

    def test_changing_rows_has_no_effect(self):
        book = Book([(2, [1])])
        book.rows().append((5,))
        self.same(book.rows(), [(1,), (1,)])

    def test_of_rows(self):
        book = self.untouched(Book.of_rows, [[1], (1,), [0, 2]])
        self.assertIs(type(book), Book)
        self.same(book.stretches, ((2, (1,)), (1, (0, 2))))
        self.same(Book.of_rows(rows=((1,), (2,))).stretches, ((1, (1,)), (1, (2,))))
        self.same(Book.of_rows([]).stretches, ())

    def test_of_rows_errors(self):
        self.same(Book.of_rows([[1]] * 400).days, 400)
        self.refused(BadBook, 400, "stretches", Book.of_rows, [[1]] * 401)
        self.refused(BadBook, 400, "stretches", Book.of_rows, [[12]] * 401)
        self.refused(BadBook, 2, "runners", Book.of_rows, [[1], [1], [12], [2, 1]])

    def test_parts_by_counting(self):
        dice = new_dice(8)
        for _ in range(60):
            rows = random_rows(dice, dice.randint(0, 12))
            book = Book.of_rows(rows)
            self.same((book.stretches, book.rows(), book.days), (as_stretches(rows), rows, len(rows)))
            self.same(book.flipped().stretches, as_stretches(rows[::-1]))
            self.same([book.runners_on(t) for t in range(1, len(rows) + 1)], rows)
            for days in range(len(rows) + 1):
                self.same(book.head(days).stretches, as_stretches(rows[:days]))
                self.same(book.tail(days).stretches, as_stretches(rows[days:]))
                self.assertTrue(book.head(days) + book.tail(days) == book)

    def test_parts_are_books_and_the_book_stays(self):
        book = Book([(2, [1]), (3, [2])])
        for part in (book.head(3), book.tail(3), book.flipped(), book.head(5), book.tail(0)):
            self.assertIs(type(part), Book)
        self.same((book.stretches, book.days), (((2, (1,)), (3, (2,))), 5))

    def test_far_parts(self):
        book = Book([(FAR // 2, [1]), (FAR // 2 - 1, [2]), (1, [3])])
        self.same(book.runners_on(1), (1,))
        self.same(book.runners_on(FAR // 2), (1,))
        self.same(book.runners_on(FAR // 2 + 1), (2,))
        self.same(book.runners_on(FAR - 1), (2,))
        self.same(book.runners_on(FAR), (3,))
        self.same(book.head(FAR // 2 + 7).stretches, ((FAR // 2, (1,)), (7, (2,))))
        self.same(book.tail(FAR // 2 + 7).stretches, ((FAR // 2 - 8, (2,)), (1, (3,))))
        self.assertTrue(book.head(FAR) == book and book.tail(0) == book)
        self.same((book.head(0).stretches, book.tail(FAR).stretches), ((), ()))

    def test_morning_out_of_range(self):
        for book in (Book([]), Book([(2, [1]), (3, [2])]), Book([(FAR, [1])])):
            for morning in (0, -1, book.days + 1, -FAR, FAR + 1, FAR ** 2):
                self.refused(OutOfRange, morning, "morning", book.runners_on, morning)

    def test_days_out_of_range(self):
        for book in (Book([]), Book([(2, [1]), (3, [2])]), Book([(FAR, [1])])):
            for days in (-1, book.days + 1, -FAR, FAR + 1, FAR ** 2):
                self.refused(OutOfRange, days, "days", book.head, days)
                self.refused(OutOfRange, days, "days", book.tail, days)

    def test_400_stretches_in_parts(self):
        book = Book(alternating(400, 3))
        self.same(book.flipped().stretches, tuple(alternating_tuples(400, 3))[::-1])
        self.same(len(book.head(1199).stretches), 400)
        self.same(book.runners_on(1200), (1,))


def alternating_tuples(stretches, days):
    return [(many, tuple(runners)) for many, runners in alternating(stretches, days)]


if __name__ == "__main__":
    unittest.main()
