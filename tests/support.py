"""What the tests of several modules share."""

import itertools
import random
import unittest

from outagain.books import Book
from outagain.depots import Depot

FAR = 10 ** 30


class PromiseTest(unittest.TestCase):
    """Checks of values together with their kinds, and of errors together with what they tell."""

    def same(self, value, expected):
        """The value is equal to what is expected, and of the same kind in all of its parts."""
        self.assertEqual(value, expected)
        self.assertEqual(kinds(value), kinds(expected))

    def refused(self, kind, at, code, call, *args):
        """The call raises just this kind of error with this at and code."""
        with self.assertRaises(kind) as caught:
            call(*args)
        self.assertIs(type(caught.exception), kind)
        self.same((caught.exception.at, caught.exception.code), (at, code))

    def no_book(self, kind, reason, call, *args):
        """The call raises just this kind of error with this reason."""
        with self.assertRaises(kind) as caught:
            call(*args)
        self.assertIs(type(caught.exception), kind)
        self.same(caught.exception.reason, reason)

    def untouched(self, call, *args):
        """The call leaves its arguments as they were; gives back what it returned."""
        before = repr([part for part in args if isinstance(part, (list, tuple))])
        answer = call(*args)
        self.assertEqual(repr([part for part in args if isinstance(part, (list, tuple))]), before)
        return answer


def kinds(value):
    """The kinds of a value and of all its parts."""
    if isinstance(value, (list, tuple)):
        return (type(value), [kinds(part) for part in value])
    return type(value)


def small_depots(periods, quotas, sizes):
    """All depots of these periods, quotas and numbers of drivers."""
    for period, quota, size in itertools.product(periods, quotas, sizes):
        for firsts in itertools.product(range(1, period + 1), repeat=size):
            if firsts.count(1) >= quota:
                yield Depot(period, quota, firsts)


def random_depot(dice, most_period=8, most_drivers=12):
    """Any depot within these bounds."""
    period = dice.randint(1, most_period)
    size = dice.randint(1, most_drivers)
    quota = dice.randint(1, size)
    firsts = [1] * quota + [dice.randint(1, period) for _ in range(size - quota)]
    dice.shuffle(firsts)
    return Depot(period, quota, firsts)


def random_book(dice, depot, stretches, most_days):
    """A book of the depot: any runners among those who report, stretch behind stretch."""
    rows = []
    nexts = list(depot.firsts)
    morning = 1
    for _ in range(stretches):
        reporting = [driver for driver in range(len(nexts)) if nexts[driver] == morning]
        runners = sorted(dice.sample(reporting, depot.quota))
        days = dice.choice([1, 1, 2, dice.randint(1, depot.period + 1), dice.randint(1, most_days)])
        rows.append((days, runners))
        morning += days
        for driver in range(len(nexts)):
            if driver in runners:
                nexts[driver] = morning
            elif nexts[driver] < morning:
                behind = morning - nexts[driver]
                nexts[driver] += -(-behind // depot.period) * depot.period
    return Book(rows)


def alternating(stretches, days=1):
    """So many stretches, two kinds of them in turn, none like its neighbour."""
    return [(days, [at % 2]) for at in range(stretches)]


def new_dice(seed):
    """Chance that is the same on every run."""
    return random.Random(seed)
