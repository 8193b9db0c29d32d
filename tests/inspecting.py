"""The answers of points 37 to 40 by the words of the document."""

import itertools

from tests.counting import crew_worlds, weekdays
from tests.support import small_depots


def crew_at(crews, closing):
    """The crew of a closing."""
    for times, crew in crews:
        closing -= times
        if closing <= 0:
            return crew
    return None


def drawn_notes(dice, depot, crews, closings, many, wrong):
    """Notes about these closings that agree with the crews, some of them wrong."""
    notes = []
    for _ in range(many):
        closing, driver = dice.choice(closings), dice.randrange(depot.size)
        notes.append((closing, driver, (driver in crew_at(crews, closing)) != (dice.random() < wrong)))
    return notes


def drawn_closings(dice, closings):
    """At most 6 closings, some of them at the ends."""
    drawn = {1, closings, max(1, closings - 1), *[dice.randint(1, closings) for _ in range(9)]}
    return dice.sample(sorted(drawn), min(len(drawn), dice.randint(1, 6)))


def passes_of_small_depots(dice, sizes, rows):
    """Tuples (depot, days, passes, crews of all books with the passes) for small depots."""
    for depot in small_depots((1, 2, 3), (1, 2), sizes):
        most = {1: 4, 2: 7, 3: 8}[depot.period] - (depot.quota == 2) - (depot.size == 4)
        for days, found in enumerate(crew_worlds(depot.period, depot.quota, depot.firsts, most)):
            worlds = {}
            for _, passes, crews in sorted(found):
                worlds.setdefault(passes, set()).add(crews)
            for passes in dice.sample(sorted(worlds), min(rows, len(worlds))):
                yield depot, days, passes, worlds[passes]


def agreeing_worlds(worlds, notes):
    """Those of the worlds, each told by all its crews, that agree with the notes."""
    return [crews for crews in worlds if all((driver in crews[at - 1]) == seen for at, driver, seen in notes)]


class Case:
    """Passes and notes behind some days, and what follows from them by counting."""

    def __init__(self, depot, days, passes, notes):
        self.depot, self.notes = depot, [tuple(note) for note in notes]
        self.quota, self.closings, self.last = depot.quota, days // depot.period, days % depot.period + 1
        marks = [first + told for first, told in zip(depot.firsts, passes)]
        self.due = weekdays(depot.period, marks)
        self.x = [(mark - 1) // depot.period for mark in marks]
        self.noted = sorted({closing for closing, _, _ in self.notes})

    def may_be(self, closing, driver):
        if (closing, driver, False) in self.notes:
            return False
        return closing != self.closings or self.due[driver] <= self.last

    def clash(self):
        """The least clash, or None."""
        found = [(closing, driver) for closing, driver, seen in self.notes
                 if seen and not self.may_be(closing, driver)]
        return ("clash", *min(found)) if found else None

    def room_of(self, closing, drivers):
        outside = {driver for noted, driver, seen in self.notes if seen and noted == closing} - set(drivers)
        return min(self.quota - len(outside), sum(self.may_be(closing, driver) for driver in drivers))

    def room(self, drivers):
        """The room of all closings: those that are neither noted nor the last one are counted together."""
        named = sorted({*self.noted, self.closings} - {0})
        others = self.closings - len(named)
        return (sum(self.room_of(closing, drivers) for closing in named)
                + others * min(self.quota, len(drivers)))

    def short(self, drivers):
        """True if the drivers are told in the right form and need more than the room."""
        if list(drivers) != sorted({i for i in drivers if 0 <= i < self.depot.size}):
            return False
        return sum(self.x[driver] for driver in drivers) > self.room(drivers)

    def any_short(self):
        """True if any set of drivers shows that the notes do not fit."""
        drivers = range(self.depot.size)
        return any(self.short(some) for many in range(self.depot.size + 1)
                   for some in itertools.combinations(drivers, many))

    def good(self, crews):
        """True if the crews are told in the right form, agree with the notes and give everybody its number."""
        if len(crews) > self.depot.size + 2 * len(self.noted) + 3:
            return False
        for times, crew in crews:
            if times < 1 or len(crew) != self.quota or len(set(crew)) != self.quota:
                return False
            if list(crew) != sorted(crew) or not set(crew) <= set(range(self.depot.size)):
                return False
        if any(tuple(one[1]) == tuple(two[1]) for one, two in itertools.pairwise(crews)):
            return False
        if sum(times for times, _ in crews) != self.closings:
            return False
        if any((driver in crew_at(crews, closing)) != seen for closing, driver, seen in self.notes):
            return False
        if crews and any(self.due[driver] > self.last for driver in crews[-1][1]):
            return False
        return [sum(times for times, crew in crews if driver in crew)
                for driver in range(self.depot.size)] == self.x

    def stands(self, answer):
        """True if the answer holds by counting."""
        if self.clash():
            return answer == self.clash()
        match answer:
            case ("fits", crews):
                return (all(isinstance(row, (list, tuple)) and len(row) == 2 for row in crews)
                        and self.good(crews))
            case ("not", drivers):
                return all(isinstance(driver, int) for driver in drivers) and self.short(drivers)
        return False


def changed_answers(answer):
    """Answers with one thing changed, and with other words and lengths."""
    word, *parts = answer
    for other in ("fits", "not", "clash", "possible", ""):
        if other != word:
            yield (other, *parts)
    yield ()
    yield (word,)
    yield (word, *parts, parts[-1])
    yield (word, *parts, 0)
    yield answer[:-1]
    if word == "clash":
        for by in (1, -1, 9):
            yield ("clash", parts[0] + by, parts[1])
            yield ("clash", parts[0], parts[1] + by)
        yield ("clash", parts[1], parts[0])
    elif word == "fits":
        for crews in changed_crews(parts[0]):
            yield ("fits", crews)
    else:
        for drivers in changed_drivers(list(parts[0])):
            yield ("not", drivers)


def changed_drivers(drivers):
    """A tuple of drivers with one more, one less, one twice, one changed, or in another order."""
    for at in range(len(drivers)):
        yield tuple(drivers[:at] + drivers[at + 1:])
        yield tuple(drivers[:at] + [drivers[at]] + drivers[at:])
        for by in (1, -1, 99):
            yield tuple(drivers[:at] + [drivers[at] + by] + drivers[at + 1:])
    yield tuple(drivers[::-1])
    for driver in range(-1, 13):
        yield tuple(sorted(drivers + [driver]))
        yield tuple(drivers + [driver])
        yield (driver,)
    yield ()


def changed_crews(crews):
    """Crews with a row more or less, cut, changed in its times or its crew, or moved."""
    rows = [(times, tuple(crew)) for times, crew in crews]
    yield tuple(rows)
    yield rows[::-1]
    yield []
    for at, (times, crew) in enumerate(rows):
        front, rear = rows[:at], rows[at + 1:]
        yield front + rear
        yield front + [rows[at]] + rows[at:]
        for by in (1, -1, -times, -times - 1):
            yield front + [(times + by, crew)] + rear
        if times > 1:
            yield front + [(1, crew), (times - 1, crew)] + rear
        if rear:
            yield front + [(times + 1, crew), (rear[0][0] - 1, rear[0][1])] + rear[1:]
            yield front + [rear[0], rows[at]] + rear[1:]
            yield front + [(times, rear[0][1])] + rear
        for changed in changed_drivers(list(crew)):
            yield front + [(times, changed)] + rear
    for crew in sorted({crew for _, crew in rows}):
        yield rows + [(1, crew)]
        yield [(1, crew)] + rows
        for at in range(len(rows) + 1):
            yield rows[:at] + [(0, crew)] + rows[at:]
            yield rows[:at] + [(1, crew), (-1, crew)] + rows[at:]
    for (times, crew), (more, other) in itertools.pairwise(rows):
        at = rows.index((times, crew))
        yield rows[:at] + [(times + 1, crew), (more, other), (-1, crew)] + rows[at + 2:]
        for driver in set(other) - set(crew):
            # The same numbers of crews for everybody, but one crew too great and one too small.
            great, small = tuple(sorted({*crew, driver})), tuple(part for part in other if part != driver)
            yield rows[:at] + [(min(times, more), great), (min(times, more), small), (times - min(times, more), crew),
                               (more - min(times, more), other)] + rows[at + 2:]
            yield rows[:at] + [(times, great), (more, small)] + rows[at + 2:]
