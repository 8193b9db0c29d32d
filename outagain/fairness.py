"""Even passes: as many as possible for everybody, as few as possible, and with little spread.

Whatever the due weekdays are, everybody can have passes that differ from the mean by not more than
the period. So the numbers are found near the mean, however many the days are.
"""

from outagain.bounds import check_many_days, within
from outagain.errors import OutOfRange

MOST_TO_SPREAD = 8
LONGEST_TO_SPREAD = 6


def most_for_all(depot, days):
    """(number, row, paper): the greatest number that everybody can have at least, and why no more."""
    check_many_days(depot, days)
    number = depot.quota * days // depot.size
    paper = within_one(depot, days, number + 1, days + 1)
    answer = within_one(depot, days, number, days + 1)
    while answer[0] != "passes":
        paper = answer
        number = number - 1
        answer = within_one(depot, days, number, days + 1)
    return (number, answer[1], paper)


def cap_for_all(depot, days):
    """(number, row, paper): the least number that nobody need go beyond, and why no less."""
    check_many_days(depot, days)
    number = (depot.quota * days + depot.size - 1) // depot.size
    paper = within_one(depot, days, depot.period, number - 1)
    answer = within_one(depot, days, depot.period, number)
    while answer[0] != "passes":
        paper = answer
        number = number + 1
        answer = within_one(depot, days, depot.period, number)
    return (number, answer[1], paper)


def spread(depot, days):
    """(spread, row, papers): the least spread of a row in which everybody has at least the period, and why no less."""
    if depot.size > MOST_TO_SPREAD:
        raise OutOfRange(depot.size, "drivers")
    if depot.period > LONGEST_TO_SPREAD:
        raise OutOfRange(depot.period, "period")
    check_many_days(depot, days)
    width = 0
    papers = []
    answers = window_answers(depot, days, width)
    while not rows_in(answers):
        papers = answers
        width = width + 1
        answers = window_answers(depot, days, width)
    return (width, rows_in(answers)[0], papers)


def within_one(depot, days, low, high):
    """The answer for the same bounds for all drivers."""
    return within(depot, days, [low] * depot.size, [high] * depot.size)


def window_answers(depot, days, width):
    """The pairs (low, answer) for passes from low to low + width, for each low that the mean does not rule out."""
    total = depot.quota * days
    least = (total + depot.size - 1) // depot.size - width
    return [(low, within_one(depot, days, low, low + width)) for low in range(least, total // depot.size + 1)]


def rows_in(answers):
    """The rows among the answers."""
    return [answer[1] for _, answer in answers if answer[0] == "passes"]
