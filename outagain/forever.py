"""Following written lists for ever.

Behind whole rounds the standing has weekday 1 again, so it alone decides what comes. There are few
standings, so one of them soon comes again, and from then on everything does.
"""

from outagain.checks import check_days
from outagain.weeklists import check_lists, check_small, led_mornings


class Course:
    """The rounds of a led depot until a standing comes again; it never changes."""

    def __init__(self, depot, rows):
        self.standings = [depot.firsts]
        self.weeks = []
        while self.standings[-1] not in self.standings[:-1]:
            going, nexts = led_mornings(depot, rows, self.standings[-1], depot.period)
            self.weeks.append(going)
            self.standings.append(tuple([morning - depot.period for morning in nexts]))
        self.before = self.standings.index(self.standings[-1])
        self.again = len(self.weeks) - self.before
        self.gains = counted(depot, self.weeks[self.before:])


def far(depot, rows, days):
    """The pair (passes, nexts) behind so many days."""
    check_small(depot)
    check_lists(depot, rows)
    check_days(days)
    course = Course(depot, rows)
    many, rest = divmod(days, depot.period)
    times = max(0, many - course.before) // course.again
    alike = many - times * course.again
    going, nexts = led_mornings(depot, rows, course.standings[alike], rest)
    passes = counted(depot, course.weeks[:alike] + [going])
    return (tuple([told + times * gain for told, gain in zip(passes, course.gains)]),
            tuple([many * depot.period + morning for morning in nexts]))


def rates(depot, rows):
    """The tuple (before, round, gains)."""
    check_small(depot)
    check_lists(depot, rows)
    course = Course(depot, rows)
    return (course.before, course.again, tuple(course.gains))


def widest(depot, rows):
    """("bounded", spread, days) with the greatest spread, or ("endless", more, less)."""
    check_small(depot)
    check_lists(depot, rows)
    course = Course(depot, rows)
    gains = course.gains
    if max(gains) > min(gains):
        return ("endless", gains.index(max(gains)), gains.index(min(gains)))
    # At last the same drivers have all day runs. If these are all drivers, nobody ever goes on a long run.
    return ("bounded", 0, 0)


def parting(depot, rows, others):
    """("alike",), or ("part", days) with the least days behind which the passes differ."""
    check_small(depot)
    check_lists(depot, rows)
    check_lists(depot, others)
    course = Course(depot, rows)
    # As long as the passes are equal, so are the standings, which depend on them alone.
    for at, going in enumerate(course.weeks):
        other_going, _ = led_mornings(depot, others, course.standings[at], depot.period)
        for weekday, runners in enumerate(going, 1):
            if other_going[weekday - 1] != runners:
                return ("part", at * depot.period + weekday)
    return ("alike",)


def counted(depot, weeks):
    """How many of the mornings of these rounds each driver has, told by their runners."""
    runs = [driver for going in weeks for runners in going for driver in runners]
    return [runs.count(driver) for driver in range(depot.size)]
