"""Running scripts at a desk."""

from outagain.crews import crews_seen
from outagain.depots import Depot
from outagain.desk import Desk
from outagain.errors import BadBook, BadDepot, BadPasses, BadWish, GoalLost, NoBook, NothingLeft, OutOfRange
from outagain.passorder import next_row
from outagain.passvalues import pass_values
from outagain.phrases import ASK, read_script
from outagain.rownumbers import number_of


def run_script(text):
    """The list of answers of a script."""
    statements = read_script(text)
    _, period, quota, firsts = statements[0]
    try:
        depot = Depot(period, quota, firsts)
    except BadDepot as bad:
        return [line_of("refused", [bad.code])]
    desk = Desk(depot)
    answers = []
    for statement in statements[1:]:
        answers.extend(answers_to(depot, desk, statement))
    return answers


def answers_to(depot, desk, statement):
    """A list of the answer to a statement, or an empty list for a deed that is done."""
    try:
        if statement[0] == ASK:
            return [answer_to(depot, desk, statement)]
        do_deed(desk, statement)
        return []
    except (OutOfRange, BadBook, BadPasses, BadWish) as bad:
        return [line_of("refused", [bad.code])]
    except (NoBook, GoalLost) as lost:
        return [line_of("refused", lost.reason[:1])]
    except NothingLeft:
        return [line_of("refused", ["nothing"])]


def do_deed(desk, statement):
    """Do what a statement that is no question says."""
    word, *facts = statement
    if word == "send":
        days, runners = facts
        desk.send(runners, days)
    elif word == "exchange":
        morning, one, other = facts
        desk.exchange(morning, one, other)
    elif word == "amend":
        morning, runners = facts
        desk.amend(morning, runners)
    elif word == "goal":
        days, passes = facts
        desk.set_goal(days, passes)
    elif word == "nogoal":
        desk.drop_goal()
    elif word == "undo":
        desk.undo()
    else:
        desk.redo()


def answer_to(depot, desk, statement):
    """The answer to a question."""
    _, word, *facts = statement
    if word in ("number", "values", "next"):
        return line_of(word, depot_parts(depot, word, facts))
    return line_of(word, desk_parts(depot, desk, word, facts))


def depot_parts(depot, word, facts):
    """What is told to a question about the depot, asked from its first day on."""
    if word == "number":
        days, told = facts
        return [number_of(depot, days, told)]
    if word == "values":
        days, driver, told = facts
        return [f"{weekday}:{least}-{greatest}"
                for weekday, least, greatest in pass_values(depot, days, told, driver)]
    days, passes = facts
    row = next_row(depot, days, passes)
    return ["none"] if row is None else row


def desk_parts(depot, desk, word, facts):
    """What is told to a question about the desk."""
    if word == "days":
        return [desk.today]
    if word == "passes":
        return desk.after().passes
    if word == "due":
        return desk.after().due()
    if word == "book":
        return row_words(desk.book().stretches)
    if word == "crews":
        return row_words(crews_seen(depot, desk.book()))
    if word == "verdict":
        days, passes = facts
        return desk.verdict(days, passes)
    answer = desk.soonest(facts[0])
    return [answer[1] if answer[0] == "least" else "never"]


def row_words(rows):
    """A word for each row of a book or of crews."""
    return [f"{many}:" + ",".join([str(driver) for driver in drivers]) for many, drivers in rows]


def line_of(word, parts):
    """The word and the parts, with a blank between neighbours."""
    return " ".join([word] + [str(part) for part in parts])
