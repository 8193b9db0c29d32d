"""Depots that are led by lists, followed morning by morning without the program's own counting."""

import itertools

from outagain.depots import Depot
from outagain.errors import BadLists, OutOfRange
from tests.support import FAR


def led(depot, rows, days):
    """The runners of each morning, and the passes and next mornings behind each number of days from 0 on."""
    passes, nexts = [0] * depot.size, list(depot.firsts)
    going, behind = [], [(tuple(passes), tuple(nexts))]
    for morning in range(1, days + 1):
        row = list(rows[(morning - 1) % depot.period])
        reporting = sorted((i for i in range(depot.size) if nexts[i] == morning), key=row.index)
        runners = tuple(sorted(reporting[:depot.quota]))
        for i in reporting:
            passes[i] += i in runners
            nexts[i] += 1 if i in runners else depot.period
        going.append(runners)
        behind.append((tuple(passes), tuple(nexts)))
    return going, behind


def drawn_lists(dice, depot):
    """A random row for each weekday."""
    return [dice.sample(range(depot.size), depot.size) for _ in range(depot.period)]


def all_lists(depot):
    """All rows of lists of a small depot."""
    orders = list(itertools.permutations(range(depot.size)))
    return itertools.product(orders, repeat=depot.period)


def drawn_small_depot(dice):
    """A depot of at most 6 drivers and a period of at most 6, often of the greatest."""
    period = dice.choice([1, 2, 3, 4, 5, 6, 6])
    size = dice.choice([1, 2, 3, 4, 5, 6, 6, 6])
    quota = dice.choice([1, 1, 2, dice.randint(1, size)])
    quota = min(quota, size)
    firsts = [1] * quota + [dice.randint(1, period) for _ in range(size - quota)]
    dice.shuffle(firsts)
    return Depot(period, quota, firsts)


def refusals(case, call, *args):
    """Check the limits and the errors of lists, in their order; args stand behind the lists."""
    bad = [[0]]
    for size, period in ((7, 3), (12, 6), (7, 7), (9, 8)):
        case.refused(OutOfRange, size, "drivers", call, Depot(period, 1, [1] * size), bad, *args)
    for period in (7, 8):
        case.refused(OutOfRange, period, "period", call, Depot(period, 1, [1] * 6), bad, *args)
    depot = Depot(3, 1, [1, 1, 2, 3])
    for many in (0, 2, 4):
        case.refused(BadLists, many, "length", call, depot, bad * many, *args)
    good = [0, 1, 2, 3]
    for row in ([], [0, 1, 2], [0, 1, 2, 3, 3], [0, 1, 2, 3, 4], [0, 1, 2, 2], [1, 2, 3, 4], [-1, 0, 1, 2],
                [0, 1, 2, -1], (3, 2, 1, 1), (0, 1, 2, FAR)):
        case.refused(BadLists, 1, "order", call, depot, [row, good, good], *args)
        case.refused(BadLists, 2, "order", call, depot, [good, row, row], *args)
        case.refused(BadLists, 3, "order", call, depot, (good, good[::-1], row), *args)
