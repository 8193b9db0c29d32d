"""Dealing all drivers to the weekdays with the least sum of costs.

Costs are told as one dict for each driver: the cost of each weekday that the driver may be dealt to.
Rooms tell how many drivers go to each weekday, from weekday 1 on; they have room for just all drivers.
"""


def deal_at_least_cost(costs, rooms):
    """("dealt", weekdays) with the weekdays of the drivers in a dealing with the least sum.

    If there is no dealing, ("crowd", drivers, weekdays): these drivers may be dealt to no others
    than these weekdays, which do not have room for all of them.
    """
    dealt = []
    for driver in range(len(costs)):
        ways = routes(costs, dealt, driver)
        ends = [weekday for weekday in ways if dealt.count(weekday) < rooms[weekday - 1]]
        if not ends:
            crowd = [other for other, weekday in enumerate(dealt) if weekday in ways] + [driver]
            return ("crowd", tuple(crowd), tuple(sorted(ways)))
        # Any end will do: in the end all places are taken, and no way to an end costs more than it must.
        dealt = moved(dealt, ways, ends[0])
    return ("dealt", dealt)


def routes(costs, dealt, driver):
    """How the next driver can be added to a dealing of those ahead, if some of them move.

    A dict tells for each weekday that can have one driver more then the pair (cost, mover): what all
    moves to this end add to the sum at least, and who moves there last of all.
    """
    ways = {weekday: (cost, driver) for weekday, cost in costs[driver].items()}
    changed = True
    while changed:
        changed = False
        for mover, here in enumerate(dealt):
            for weekday, cost in costs[mover].items():
                total = ways[here][0] + cost - costs[mover][here] if here in ways else None
                if total is not None and (weekday not in ways or total < ways[weekday][0]):
                    ways[weekday] = (total, mover)
                    changed = True
    return ways


def moved(dealt, ways, end):
    """The dealing with one driver more, who is added by the moves that lead to this end."""
    grown = dealt + [0]
    weekday = end
    while weekday > 0:
        _, mover = ways[weekday]
        # The new driver leaves no weekday, so its move ends the row of moves.
        left = grown[mover]
        grown[mover] = weekday
        weekday = left
    return grown


def prices_and_tolls(costs, dealt, period):
    """Prices of the drivers and tolls of the weekdays for a dealing with the least sum of costs.

    Price and toll together are at most the cost, and just the cost where the driver is dealt to.
    """
    tolls = [0] * period
    changed = True
    while changed:
        changed = False
        for driver, here in enumerate(dealt):
            for weekday, cost in costs[driver].items():
                most = tolls[here - 1] + cost - costs[driver][here]
                if tolls[weekday - 1] > most:
                    tolls[weekday - 1] = most
                    changed = True
    return ([costs[driver][here] - tolls[here - 1] for driver, here in enumerate(dealt)], tolls)
