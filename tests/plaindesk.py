"""A desk by the words of the document, which keeps the runners of each morning one by one."""

from outagain.depots import Depot
from outagain.judging import judge
from tests.counting import follow, joined
from tests.support import FAR


class Refused(Exception):
    """What a deed or a question is refused with: the name of the error and what it tells."""


class PlainDesk:
    def __init__(self, depot):
        self.depot, self.rows, self.goal = depot, (), None
        self.past, self.ahead = [], []

    def follow(self, rows):
        return follow(self.depot.period, self.depot.quota, self.depot.firsts, rows)

    def standing(self, rows):
        nexts = self.follow(rows)[2]
        return Depot(self.depot.period, self.depot.quota, [morning - len(rows) for morning in nexts])

    def reason(self, rows, days, passes):
        rest = [told - had for told, had in zip(passes, self.follow(rows)[0])]
        gone = [driver for driver, left in enumerate(rest) if left < 0]
        return ("gone", gone[0]) if gone else judge(self.standing(rows), days - len(rows), rest)

    def hold_goal(self, rows):
        if self.goal is None:
            return
        days, passes = self.goal
        reason = ("days",) if len(rows) > days else self.reason(rows, days, passes)
        if reason != ("possible",):
            raise Refused("GoalLost", reason)

    def grown(self, rows, at, days, runners):
        """The rows with a stretch behind them."""
        if not 1 <= days <= FAR:
            raise Refused("BadBook", at, "days")
        self.check_runners(at, runners)
        reporting = [i for i, first in enumerate(self.standing(rows).firsts) if first == 1]
        if any(driver >= self.depot.size for driver in runners):
            raise Refused("BadBook", at, "driver")
        if len(runners) != self.depot.quota:
            raise Refused("BadBook", at, "count")
        if not set(runners) <= set(reporting):
            raise Refused("BadBook", at, "away")
        if len(joined(rows)) + 1 > 400:
            raise Refused("BadBook", 400, "stretches")
        if len(rows) + days > FAR:
            raise Refused("BadBook", 0, "total")
        rows = rows + (tuple(runners),) * days
        self.hold_goal(rows)
        return rows

    def check_runners(self, at, runners):
        if list(runners) != sorted(set(runners)) or not all(0 <= driver <= 11 for driver in runners):
            raise Refused("BadBook", at, "runners")

    def check_passes(self, passes):
        if len(passes) != self.depot.size:
            raise Refused("BadPasses", len(passes), "length")
        for at, told in enumerate(passes):
            if told < 0:
                raise Refused("BadPasses", at, "pass")

    def check_morning(self, morning):
        if not 1 <= morning <= len(self.rows):
            raise Refused("OutOfRange", morning, "morning")

    def changed(self, rows):
        if len(joined(rows)) > 400:
            raise Refused("BadBook", 400, "stretches")
        walked = self.follow(rows)
        if len(walked) == 2:
            morning, code = walked
            ends, total = [], 0
            for days, _ in joined(rows):
                total += days
                ends.append(total)
            raise Refused("BadBook", sum(end < morning for end in ends), code)
        self.hold_goal(rows)
        return rows

    def settle(self, rows, goal):
        self.past.append((self.rows, self.goal))
        self.ahead = []
        self.rows, self.goal = rows, goal

    def send(self, runners, days=1):
        self.settle(self.grown(self.rows, 0, days, runners), self.goal)

    def send_all(self, stretches):
        rows = self.rows
        for at, (days, runners) in enumerate(stretches):
            rows = self.grown(rows, at, days, runners)
        if len(stretches) > 0:
            self.settle(rows, self.goal)

    def exchange(self, morning, one, other):
        self.check_morning(morning)
        for driver in (one, other):
            if not 0 <= driver < self.depot.size:
                raise Refused("OutOfRange", driver, "driver")
        reporting = self.follow(self.rows)[3][morning - 1]
        if one not in reporting or other not in reporting:
            raise Refused("BadBook", morning, "apart")
        rows = list(self.rows[:morning - 1])
        for runners in self.rows[morning - 1:]:
            names = [one if driver == other else other if driver == one else driver for driver in runners]
            rows.append(tuple(sorted(names)))
        self.settle(self.changed(tuple(rows)), self.goal)

    def amend(self, morning, runners):
        self.check_morning(morning)
        self.check_runners(0, runners)
        rows = self.rows[:morning - 1] + (tuple(runners),) + self.rows[morning:]
        self.settle(self.changed(rows), self.goal)

    def verdict(self, days, passes):
        if not len(self.rows) <= days <= FAR:
            raise Refused("OutOfRange", days, "days")
        self.check_passes(passes)
        return self.reason(self.rows, days, passes)

    def set_goal(self, days, passes):
        reason = self.verdict(days, passes)
        if reason != ("possible",):
            raise Refused("NoBook", reason)
        self.settle(self.rows, (days, tuple(passes)))

    def drop_goal(self):
        if self.goal is None:
            raise Refused("NothingLeft")
        self.settle(self.rows, None)

    def undo(self):
        if not self.past:
            raise Refused("NothingLeft")
        self.ahead.append((self.rows, self.goal))
        self.rows, self.goal = self.past.pop()

    def redo(self):
        if not self.ahead:
            raise Refused("NothingLeft")
        self.past.append((self.rows, self.goal))
        self.rows, self.goal = self.ahead.pop()


def outcome(call, *args):
    """What a call of the program or of a plain desk gives or raises, told alike."""
    from outagain import errors
    try:
        return ("gives", call(*args))
    except Refused as refused:
        return refused.args
    except (errors.NoBook, errors.GoalLost) as error:
        return (type(error).__name__, error.reason)
    except errors.NothingLeft:
        return ("NothingLeft",)
    except errors.OutagainError as error:
        return (type(error).__name__, error.at, error.code)
