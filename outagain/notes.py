"""Notes of an inspector: whether books with given passes agree with who was seen on some closings."""

from outagain.checks import ascending, check_days, check_passes
from outagain.crews import times_in
from outagain.errors import BadNotes
from outagain.judging import check_possible, due_of
from outagain.longbooks import crew_counts, shared_crews
from outagain.neighbours import front_pairs, join_neighbours, rear_pairs
from outagain.seating import seat

MOST_NOTES = 40
MOST_CLOSINGS = 6


class Inquiry:
    """What possible passes and notes say about the crews; it never changes.

    The told closings are those that are noted, and the last one. All others are alike.
    """

    def __init__(self, depot, days, passes, notes):
        self.quota = depot.quota
        self.everybody = list(range(depot.size))
        self.rounds = depot.closings(days)
        self.needs = crew_counts(depot, passes)
        last = depot.last_weekday(days)
        self.late = [driver for driver, weekday in enumerate(due_of(depot, passes)) if weekday > last]
        self.noted = sorted({closing for closing, _, _ in notes})
        ends = [self.rounds] if self.rounds > 0 and self.rounds not in self.noted else []
        self.told = self.noted + ends
        self.others = self.rounds - len(self.told)
        self.seen = {closing: noted_drivers(notes, closing, True) for closing in self.told}
        self.missed = {closing: noted_drivers(notes, closing, False) for closing in self.told}

    def may_be(self, closing, driver):
        """True if the driver may be in the crew of this told closing."""
        return driver not in self.missed[closing] and (closing < self.rounds or driver not in self.late)

    def able(self, closing, drivers):
        """Those of the drivers who may be in the crew of this told closing."""
        return [driver for driver in drivers if self.may_be(closing, driver)]

    def clashes(self):
        """The answers ("clash", closing, driver) for drivers who are seen where they may not be, ascending."""
        return [("clash", closing, driver) for closing in self.told for driver in self.seen[closing]
                if not self.may_be(closing, driver)]

    def room(self, drivers):
        """The room that all closings together give to the drivers."""
        total = self.others * min(self.quota, len(drivers))
        for closing in self.told:
            outside = len([driver for driver in self.seen[closing] if driver not in drivers])
            total = total + min(self.quota - outside, len(self.able(closing, drivers)))
        return total

    def seated(self):
        """How the crews can be shared out beside those who are seen, as seat tells it.

        The last hall are all other closings.
        """
        rooms = []
        limits = []
        needs = self.needs
        for closing in self.told:
            seen = self.seen[closing]
            rooms.append(self.quota - len(seen))
            limits.append([1 if driver not in seen and self.may_be(closing, driver) else 0
                           for driver in self.everybody])
            needs = [need - (1 if driver in seen else 0) for driver, need in enumerate(needs)]
        rooms.append(self.quota * self.others)
        limits.append([self.others for _ in self.everybody])
        return seat(rooms, limits, needs)

    def crews(self, table):
        """The crews that follow from the table of seats."""
        told = {}
        for at, closing in enumerate(self.told):
            told[closing] = tuple([driver for driver in self.everybody
                                   if driver in self.seen[closing] or table[at][driver] > 0])
        return woven(shared_crews(self.quota, self.others, table[-1]), told)


def fits(depot, days, passes, notes):
    """("fits", crews) if the notes fit, else ("clash", closing, driver) or ("not", drivers)."""
    check_notes(depot, days, passes, notes)
    check_possible(depot, days, passes)
    return fitting(depot, days, passes, notes)


def fits_stands(depot, days, passes, notes, answer):
    """True if the answer holds by counting."""
    check_notes(depot, days, passes, notes)
    check_possible(depot, days, passes)
    inquiry = Inquiry(depot, days, passes, notes)
    clashes = inquiry.clashes()
    if clashes:
        return answer == clashes[0]
    if len(answer) != 2 or not isinstance(answer[1], (list, tuple)):
        return False
    word, part = answer
    if word == "fits":
        return crews_stand(inquiry, part)
    return word == "not" and drivers_stand(inquiry, part)


def agreeing(depot, days, passes, notes):
    """(k, paper): how many notes from the front on fit, and why one more does not, or None."""
    check_notes(depot, days, passes, notes)
    check_possible(depot, days, passes)
    for many in range(len(notes)):
        paper = fitting(depot, days, passes, notes[:many + 1])
        if paper[0] != "fits":
            return (many, paper)
    return (len(notes), None)


def check_notes(depot, days, passes, notes):
    """Raise an error unless these are days, passes and notes."""
    check_days(days)
    check_passes(depot, passes)
    if len(notes) > MOST_NOTES:
        raise BadNotes(MOST_NOTES, "notes")
    named = {}
    for at, (closing, driver, _) in enumerate(notes):
        if not 1 <= closing <= depot.closings(days):
            raise BadNotes(at, "closing")
        if not 0 <= driver < depot.size:
            raise BadNotes(at, "driver")
        named[closing] = True
        if len(named) > MOST_CLOSINGS:
            raise BadNotes(at, "closings")


def fitting(depot, days, passes, notes):
    """The answer of fits, for arguments that have been checked and any number of notes."""
    inquiry = Inquiry(depot, days, passes, notes)
    clashes = inquiry.clashes()
    if clashes:
        return clashes[0]
    word, found = inquiry.seated()
    if word == "short":
        return ("not", tuple(found))
    return ("fits", inquiry.crews(found))


def noted_drivers(notes, closing, seen):
    """The drivers who are noted as seen, or as not seen, on the closing, ascending."""
    return sorted({driver for noted, driver, told in notes if noted == closing and told == seen})


def woven(rows, crews):
    """The crews of all closings: those of the dict on their closings, the rows on all closings between."""
    out = []
    left = rows
    behind = 0
    for closing in sorted(crews):
        gap = closing - behind - 1
        out.extend(front_pairs(left, gap))
        out.append((1, crews[closing]))
        left = rear_pairs(left, gap)
        behind = closing
    return join_neighbours(out)


def crews_stand(inquiry, crews):
    """True if these are crews that agree with the notes and are told as they have to be."""
    # If everybody is in as many crews as needed, they are crews of just all closings.
    return (well_formed(inquiry, crews)
            and [times_in(crews, driver) for driver in inquiry.everybody] == inquiry.needs
            and all([agrees(inquiry, crews, closing) for closing in inquiry.told]))


def well_formed(inquiry, crews):
    """True if these are not too many rows, each of some times and of a crew, with unlike neighbours."""
    size = len(inquiry.everybody)
    for row in crews:
        if not isinstance(row, (list, tuple)) or len(row) != 2:
            return False
        times, crew = row
        if times < 1 or len(crew) != inquiry.quota or not ascending(crew, size):
            return False
    rows = [(times, tuple(crew)) for times, crew in crews]
    return len(join_neighbours(rows)) == len(rows) and len(rows) <= size + 2 * len(inquiry.noted) + 3


def agrees(inquiry, crews, closing):
    """True if just those are in the crew of this told closing who may be, and all who are seen there."""
    _, crew = rear_pairs(crews, closing - 1)[0]
    return (len(inquiry.able(closing, crew)) == len(crew)
            and len([driver for driver in inquiry.seen[closing] if driver not in crew]) == 0)


def drivers_stand(inquiry, drivers):
    """True if these are drivers who need to be in more crews than the closings have room for."""
    return (all([isinstance(driver, int) for driver in drivers]) and ascending(drivers, len(inquiry.everybody))
            and sum([inquiry.needs[driver] for driver in drivers]) > inquiry.room(drivers))
