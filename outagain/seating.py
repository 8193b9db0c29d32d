"""Sharing out seats among the drivers.

Rooms tell how many seats each of some halls gives, all of which are taken; limits tell for each hall
how many of them each driver can take at most, and needs how many seats each driver takes in all halls
together. The needs add up to the rooms.
"""


def seat(rooms, limits, needs):
    """("seated", table) with the seats that each hall gives to each driver, or ("short", drivers).

    The drivers of "short" need more seats than they can get: of each hall the lesser number of its room
    and of their limits there together.
    """
    if min(rooms, default=0) < 0:
        return ("short", [])
    for driver, need in enumerate(needs):
        if need < 0:
            return ("short", [other for other in range(len(needs)) if other != driver])
    seating = Seating(rooms, limits, len(needs))
    for driver, need in enumerate(needs):
        while need > 0:
            ways = seating.ways_to(driver)
            steps = seating.steps_along(ways)
            if not steps:
                return ("short", sorted(ways))
            need = need - seating.take(steps, need)
    return ("seated", seating.table)


class Seating:
    """Seats that have been shared out so far."""

    def __init__(self, rooms, limits, size):
        self.left = list(rooms)
        self.limits = limits
        self.table = [[0] * size for _ in rooms]

    def ways_to(self, driver):
        """Who can make a seat free for the driver, at once or by taking another one's seat elsewhere.

        A dict tells for each of them the pair (hall, taker) of the seat, None for the driver itself.
        """
        ways = {driver: None}
        waiting = [driver]
        while waiting:
            taker = waiting[0]
            givers = [(giver, hall) for hall in range(len(self.left)) if self.slack(hall, taker) > 0
                      for giver, seats in enumerate(self.table[hall]) if seats > 0]
            found = []
            for giver, hall in givers:
                if giver not in ways:
                    ways[giver] = (hall, taker)
                    found.append(giver)
            waiting = waiting[1:] + found
        return ways

    def steps_along(self, ways):
        """The steps (hall, taker, giver) from a free seat, whose giver is None, on; [] if there is none.

        The ways were found nearest first, so these are as few steps as can be. That keeps the number of
        rows of steps small, however many seats there are.
        """
        for taker in ways:
            for hall, free in enumerate(self.left):
                if free > 0 and self.slack(hall, taker) > 0:
                    return [(hall, taker, None)] + steps_behind(ways, taker)
        return []

    def take(self, steps, need):
        """Take as many seats along the steps as can be, but not more than needed; gives how many."""
        many = need
        for hall, taker, giver in steps:
            given = self.left[hall] if giver is None else self.table[hall][giver]
            many = min(many, given, self.slack(hall, taker))
        for hall, taker, giver in steps:
            self.table[hall][taker] = self.table[hall][taker] + many
            if giver is None:
                self.left[hall] = self.left[hall] - many
            else:
                self.table[hall][giver] = self.table[hall][giver] - many
        return many

    def slack(self, hall, driver):
        """How many more seats the driver can take in the hall."""
        return self.limits[hall][driver] - self.table[hall][driver]


def steps_behind(ways, giver):
    """The steps by which the seat that this giver makes free comes to the driver whom the ways lead to."""
    steps = []
    leaving = giver
    while ways[leaving] is not None:
        hall, taker = ways[leaving]
        steps.append((hall, taker, leaving))
        leaving = taker
    return steps
