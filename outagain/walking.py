"""Walking a book through a depot: what every driver did, and is due to do."""

from outagain.depots import Depot
from outagain.errors import BadBook


class After:
    """What is known behind a walk; it never changes."""

    def __init__(self, depot, days, passes, longs, nexts):
        self.days = days
        self.passes = tuple(passes)
        self.longs = tuple(longs)
        self.nexts = tuple(nexts)
        self._depot = depot

    def due(self):
        """The weekdays of the next mornings."""
        return tuple([self._depot.weekday(morning) for morning in self.nexts])

    def standing(self):
        """The depot that goes on from here."""
        firsts = [morning - self.days for morning in self.nexts]
        return Depot(self._depot.period, self._depot.quota, firsts)


def walk(depot, book):
    """Follow all drivers through the book; raise BadBook if it is not one of the depot."""
    passes = [0] * depot.size
    longs = [0] * depot.size
    nexts = list(depot.firsts)
    behind = 1
    for at, (days, runners) in enumerate(book.stretches):
        check_runners(depot, at, runners, nexts, behind)
        behind = behind + days
        for driver in range(depot.size):
            if driver in runners:
                passes[driver] = passes[driver] + days
                nexts[driver] = behind
            else:
                runs = long_runs(depot, nexts[driver], behind)
                longs[driver] = longs[driver] + runs
                nexts[driver] = nexts[driver] + runs * depot.period
    return After(depot, book.days, passes, longs, nexts)


def check_runners(depot, at, runners, nexts, morning):
    """Raise BadBook if the runners cannot begin stretch number at on this morning."""
    if [driver for driver in runners if driver >= depot.size]:
        raise BadBook(at, "driver")
    if len(runners) != depot.quota:
        raise BadBook(at, "count")
    if [driver for driver in runners if nexts[driver] != morning]:
        raise BadBook(at, "away")


def long_runs(depot, morning, behind):
    """How many long runs, one behind another from this morning on, begin ahead of a later one."""
    # Nobody stays away longer than a period, so this is never below 0.
    return (behind - morning + depot.period - 1) // depot.period


def mornings(depot, book):
    """Yield (morning, reporting, runners) for each morning of a book of the depot."""
    nexts = list(depot.firsts)
    for morning, runners in enumerate(book.rows(), 1):
        reporting = tuple([driver for driver in range(depot.size) if nexts[driver] == morning])
        yield (morning, reporting, runners)
        for driver in reporting:
            nexts[driver] = morning + (1 if driver in runners else depot.period)
