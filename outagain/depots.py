"""Depots: period, quota, and the first mornings of the drivers."""

from outagain.checks import check_days
from outagain.errors import BadDepot, OutOfRange

MOST_QUOTA = 12


class Depot:
    """A depot that never changes."""

    MOST_PERIOD = 8
    MOST_DRIVERS = 12

    def __init__(self, period, quota, firsts):
        check_period_and_quota(period, quota)
        check_firsts(period, quota, firsts)
        self.period = period
        self.quota = quota
        self.firsts = tuple(firsts)

    def __eq__(self, other):
        return (isinstance(other, Depot) and self.period == other.period
                and self.quota == other.quota and self.firsts == other.firsts)

    @property
    def size(self):
        """The number of drivers."""
        return len(self.firsts)

    @property
    def places(self):
        """The long runs that begin on each weekday, from weekday 1 on."""
        return tuple([self.firsts.count(weekday) - (self.quota if weekday == 1 else 0)
                      for weekday in range(1, self.period + 1)])

    def weekday(self, morning):
        """The weekday of a morning."""
        if morning < 1:
            raise OutOfRange(morning, "morning")
        return (morning - 1) % self.period + 1

    def closings(self, days):
        """The number of closings among so many days."""
        check_days(days)
        return days // self.period

    def last_weekday(self, days):
        """The weekday of the morning behind so many days."""
        check_days(days)
        return self.weekday(days + 1)

    def due_places(self, days):
        """The number of drivers due on each weekday behind so many days."""
        last = self.last_weekday(days)
        return tuple([count + (self.quota if weekday == last else 0)
                      for weekday, count in enumerate(self.places, 1)])

    def begun(self, days):
        """The number of long runs that begin within so many days."""
        check_days(days)
        places = self.places
        return days // self.period * sum(places) + sum(places[:days % self.period])

    @classmethod
    def from_places(cls, period, quota, places):
        """The depot with these places whose firsts ascend."""
        check_period_and_quota(period, quota)
        check_places(period, quota, places)
        firsts = [1] * quota
        for weekday, count in enumerate(places, 1):
            firsts.extend([weekday] * count)
        return cls(period, quota, firsts)


def check_period_and_quota(period, quota):
    """Raise BadDepot if no depot has this period or this quota."""
    if not 1 <= period <= Depot.MOST_PERIOD:
        raise BadDepot(period, "period")
    if not 1 <= quota <= MOST_QUOTA:
        raise BadDepot(quota, "quota")


def check_firsts(period, quota, firsts):
    """Raise BadDepot if no depot of this period and quota has these firsts."""
    if not 1 <= len(firsts) <= Depot.MOST_DRIVERS:
        raise BadDepot(len(firsts), "drivers")
    for driver, first in enumerate(firsts):
        if not 1 <= first <= period:
            raise BadDepot(driver, "first")
    ones = firsts.count(1)
    if ones < quota:
        raise BadDepot(ones, "ones")


def check_places(period, quota, places):
    """Raise BadDepot if no depot of this period and quota has these places."""
    if len(places) != period:
        raise BadDepot(len(places), "places")
    for weekday, count in enumerate(places, 1):
        if count < 0:
            raise BadDepot(weekday, "place")
    drivers = quota + sum(places)
    if drivers > Depot.MOST_DRIVERS:
        raise BadDepot(drivers, "drivers")
