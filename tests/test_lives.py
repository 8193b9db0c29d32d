"""Point 10 and the lives of the interface."""

import itertools
import unittest

from outagain.books import Book
from outagain.depots import Depot
from outagain.errors import BadBook, BadLives, OutOfRange
from outagain.lives import book_of_lives, lives
from tests.counting import all_books, follow, joined
from tests.support import FAR, PromiseTest, new_dice, random_book, random_depot, small_depots


def told_lives(depot, rows):
    """The lives by following morning by morning."""
    found = follow(depot.period, depot.quota, depot.firsts, rows)[4]
    return [[(letter, many) for many, letter in joined(life)] for life in found]


def shredded(dice, life):
    """The same life with some of its pairs cut into several with the same letter."""
    pieces = []
    for letter, runs in life:
        while runs > 1 and dice.random() < 0.6:
            many = dice.randint(1, runs - 1)
            pieces.append((letter, many))
            runs -= many
        pieces.append([letter, runs])
    return pieces


class BothWaysTest(PromiseTest):
    def both_ways(self, dice, depot, book):
        rows = lives(depot, book)
        self.assertTrue(self.untouched(book_of_lives, depot, book.days, rows) == book)
        cut = [shredded(dice, life) for life in rows]
        again = self.untouched(book_of_lives, depot, book.days, cut)
        self.assertIs(type(again), Book)
        self.same(again.stretches, book.stretches)
        return rows

    def test_all_books(self):
        dice = new_dice(20)
        for depot in small_depots((1, 2, 3), (1, 2), (1, 2, 3)):
            for days in range(6):
                for rows in all_books(depot.period, depot.quota, depot.firsts, days):
                    self.same(self.both_ways(dice, depot, Book(joined(rows))), told_lives(depot, rows))

    def test_greater_depots(self):
        dice = new_dice(21)
        for _ in range(150):
            depot = random_depot(dice)
            book = random_book(dice, depot, dice.randint(0, 12), 20)
            self.same(self.both_ways(dice, depot, book), told_lives(depot, tuple(book.rows())))

    def test_far(self):
        dice = new_dice(22)
        for _ in range(60):
            depot = random_depot(dice)
            book = random_book(dice, depot, 12, FAR // 12)
            rows = self.both_ways(dice, depot, book)
            for driver, life in enumerate(rows):
                self.good(depot, book, driver, life)

    def good(self, depot, book, driver, life):
        letters = [letter for letter, _ in life]
        self.assertTrue(all(one != two for one, two in zip(letters, letters[1:])))
        self.assertTrue(set(letters) <= {"D", "L"})
        steps = sum(runs * (1 if letter == "D" else depot.period) for letter, runs in life)
        self.assertTrue(book.days < depot.firsts[driver] + steps <= book.days + depot.period)

    def test_one_stretch_of_all_days(self):
        depot = Depot(3, 1, [1, 1, 2, 3])
        rows = [[("L", (FAR + 2) // 3)], [("D", FAR)], [("L", (FAR + 1) // 3)], [("L", FAR // 3)]]
        self.same(lives(depot, Book([(FAR, [1])])), rows)
        self.same(book_of_lives(depot, FAR, rows).stretches, ((FAR, (1,)),))

    def test_not_yet_begun(self):
        depot = Depot(8, 1, [1, 4, 8])
        self.same(lives(depot, Book([(3, [0])])), [[("D", 3)], [], []])
        self.same(lives(depot, Book([(4, [0])])), [[("D", 4)], [("L", 1)], []])
        self.same(book_of_lives(depot, 3, [[("D", 3)], [], []]).stretches, ((3, (0,)),))
        self.same(lives(depot, Book([])), [[], [], []])
        self.same(book_of_lives(depot, 0, [[], [], []]).stretches, ())

    def test_lists_and_tuples(self):
        depot = Depot(2, 1, [1, 2])
        for rows in ([[["D", 2]], [["L", 1]]], ((("D", 2),), (("L", 1),)), [(["D", 1], ["D", 1]), [("L", 1)]]):
            self.same(book_of_lives(depot=depot, days=2, rows=rows).stretches, ((2, (0,)),))

    def test_changing_lives_has_no_effect(self):
        depot, book = Depot(2, 1, [1, 2]), Book([(2, [0])])
        lives(depot=depot, book=book)[0].append(("L", 1))
        self.same(lives(depot, book), [[("D", 2)], [("L", 1)]])

    def test_period_one(self):
        depot = Depot(1, 1, [1, 1])
        self.same(lives(depot, Book([(2, [0]), (1, [1])])), [[("D", 2), ("L", 1)], [("L", 2), ("D", 1)]])

    def test_raises_as_walking(self):
        depot = Depot(3, 1, [1, 1, 2, 3])
        self.refused(BadBook, 1, "driver", lives, depot, Book([(1, [1]), (1, [4])]))
        self.refused(BadBook, 0, "count", lives, depot, Book([(1, [0, 1])]))
        self.refused(BadBook, 1, "away", lives, depot, Book([(1, [1]), (1, [0])]))


class WrongLivesTest(PromiseTest):
    depot = Depot(3, 1, [1, 1, 2, 3])
    rows = [[("L", 2)], [("D", 1), ("L", 1)], [("D", 1), ("L", 1)], [("D", 2)]]

    def wrong(self, at, code, days, rows):
        self.refused(BadLives, at, code, book_of_lives, self.depot, days, rows)

    def changed(self, **changes):
        return [changes.get("abcd"[driver], life) for driver, life in enumerate(self.rows)]

    def test_good(self):
        self.same(book_of_lives(self.depot, 4, self.rows).stretches, ((1, (1,)), (1, (2,)), (2, (3,))))

    def test_days(self):
        for days in (-1, FAR + 1, -FAR):
            self.refused(OutOfRange, days, "days", book_of_lives, self.depot, days, [])

    def test_length(self):
        self.wrong(0, "length", 4, [])
        self.wrong(3, "length", 4, [[("X", 0)]] * 3)
        self.wrong(5, "length", 4, self.rows + [[]])

    def test_piece(self):
        for piece in (("X", 1), ("", 1), ("d", 1), ("DL", 1), ("D", 0), ("L", 0), ("L", -1), ("D", -FAR)):
            self.wrong(0, "piece", 4, self.changed(a=[piece]))
            self.wrong(0, "piece", 4, self.changed(a=[("L", 1), piece]))
            self.wrong(2, "piece", 4, self.changed(c=[("D", 1), ("L", 1), piece]))

    def test_long(self):
        self.wrong(0, "long", 4, self.changed(a=[("L", 3)]))
        self.wrong(0, "long", 4, self.changed(a=[("L", 1), ("L", 2)]))
        self.wrong(3, "long", 4, self.changed(d=[("D", 3)]))
        self.wrong(3, "long", 4, self.changed(d=[("D", 2), ("D", 1)]))
        self.wrong(1, "long", 4, self.changed(b=[("D", FAR ** 2)]))
        self.wrong(1, "long", 4, self.changed(b=[("L", FAR)]))
        self.wrong(0, "long", 0, [[("D", 1)], [], [], []])
        self.wrong(3, "long", 2, [[("D", 2)], [("L", 1)], [("L", 1)], [("L", 1)]])

    def test_short(self):
        self.wrong(0, "short", 4, self.changed(a=[]))
        self.wrong(0, "short", 4, self.changed(a=[("L", 1)]))
        self.wrong(3, "short", 4, self.changed(d=[("D", 1)]))
        self.wrong(2, "short", FAR, [[("D", FAR)], [("L", (FAR + 2) // 3)], [("L", 1)], []])

    def test_piece_ahead_of_long_ahead_of_short(self):
        self.wrong(0, "piece", 4, self.changed(a=[("X", 9)]))
        self.wrong(0, "piece", 4, self.changed(a=[("L", 1), ("D", 0)]))
        self.wrong(0, "long", 4, self.changed(a=[("L", 9), ("X", 1)]))
        self.wrong(0, "piece", 4, self.changed(a=[("X", 1), ("L", 9)]))
        self.wrong(1, "long", 4, self.changed(b=[("D", 5), ("L", 0)]))

    def test_first_driver_ahead_of_all_kinds(self):
        self.wrong(1, "short", 4, self.changed(b=[("D", 1)], c=[("X", 1)]))
        self.wrong(2, "long", 4, self.changed(c=[("D", 4)], d=[("D", 0)]))
        self.wrong(0, "short", 4, [[], [("X", 1)], [("D", 9)], [("D", 0)]])

    def test_count(self):
        everybody_long = [[("L", 2)], [("L", 2)], [("L", 1)], [("L", 1)]]
        self.wrong(1, "count", 4, everybody_long)
        self.wrong(2, "count", 4, self.changed(b=[("D", 4)]))
        self.wrong(2, "count", 4, self.changed(c=[("L", 1)]))
        self.wrong(1, "count", 4, self.changed(a=[("D", 4)]))
        self.wrong(4, "count", 4, self.changed(b=[("D", 1), ("L", 1)], d=[("D", 1), ("L", 1)]))
        self.wrong(FAR, "count", FAR, [[("D", FAR - 1), ("L", 1)], [("L", (FAR + 2) // 3)],
                                       [("L", (FAR + 1) // 3)], [("L", FAR // 3)]])

    def test_length_and_lives_ahead_of_count(self):
        self.wrong(3, "short", 4, [[("L", 2)], [("L", 2)], [("L", 1)], []])
        self.wrong(3, "piece", 4, [[("L", 2)], [("L", 2)], [("L", 1)], [("D", 2), ("L", 0)]])

    def test_by_trying_all_lives(self):
        depot = Depot(2, 1, [1, 1, 2])
        days = 3
        words = ["".join(letters) for many in range(4) for letters in itertools.product("DL", repeat=many)]
        books = {tuple(told_words(depot, rows)): rows for rows in all_books(2, 1, depot.firsts, days)}
        for told in itertools.product(words, repeat=3):
            rows = [[(letter, 1) for letter in word] for word in told]
            if told in books:
                self.assertTrue(book_of_lives(depot, days, rows) == Book(joined(books[told])))
            else:
                self.refused(BadLives, *first_fault(depot, days, told), book_of_lives, depot, days, rows)


def told_words(depot, rows):
    return follow(depot.period, depot.quota, depot.firsts, rows)[4]


def first_fault(depot, days, words):
    """The first fault of lives that are told as words of letters, run by run."""
    going = [0] * (days + 2)
    for driver, word in enumerate(words):
        morning = depot.firsts[driver]
        for letter in word:
            if morning > days:
                return driver, "long"
            going[morning] += letter == "D"
            morning += 1 if letter == "D" else depot.period
        if morning <= days:
            return driver, "short"
    return next((t, "count") for t in range(1, days + 1) if going[t] != depot.quota)


class ManyStretchesTest(PromiseTest):
    depot = Depot(1, 1, [1, 1, 1])

    def rows(self, days):
        one = [("DL"[at % 2], 1) for at in range(days)]
        two = [("LD"[at % 2], 1) for at in range(days)]
        return [one, two, [("L", days)]]

    def test_399_and_400_stretches(self):
        for days in (399, 400):
            book = book_of_lives(self.depot, days, self.rows(days))
            self.same(len(book.stretches), days)
            self.same(lives(self.depot, book), self.rows(days))

    def test_401_stretches(self):
        self.refused(BadBook, 400, "stretches", book_of_lives, self.depot, 401, self.rows(401))
        self.refused(BadBook, 400, "stretches", book_of_lives, self.depot, 900, self.rows(900))

    def test_lives_ahead_of_stretches(self):
        one, two, three = self.rows(401)
        self.refused(BadLives, 2, "short", book_of_lives, self.depot, 401, [one, two, [("L", 400)]])
        self.refused(BadLives, 401, "count", book_of_lives, self.depot, 401,
                     [one[:400] + [("L", 1)], two, three])

    def test_stretches_are_counted_behind_joining(self):
        rows = [[("D", 1)] * 900, [("L", 900)], [("L", 1)] * 900]
        self.same(book_of_lives(self.depot, 900, rows).stretches, ((900, (0,)),))
        one, two, three = self.rows(400)
        rows = [one + [("L", 1)] * 5, two + [("D", 1)] * 5, three + [("L", 5)]]
        self.same(len(book_of_lives(self.depot, 405, rows).stretches), 400)


if __name__ == "__main__":
    unittest.main()
