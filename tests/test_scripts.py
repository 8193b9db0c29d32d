"""Point 50: running scripts."""

import unittest

from outagain.books import Book
from outagain.crews import crews_seen
from outagain.depots import Depot
from outagain.errors import BadLine
from outagain.passorder import next_row
from outagain.passvalues import pass_values
from outagain.phrases import read_script
from outagain.rownumbers import number_of
from outagain.scripts import run_script
from outagain.walking import walk
from outagain.wishes import least_day
from tests.counting import joined
from tests.plaindesk import PlainDesk, outcome
from tests.support import FAR, PromiseTest, new_dice

HEAD = "depot 3 1 1 1 2 3\n"


def expected_answers(text):
    """The answers by a plain desk."""
    statements = read_script(text)
    depot = Depot(*statements[0][1:])
    plain = PlainDesk(depot)
    answers = []
    for word, *facts in statements[1:]:
        if word == "ask":
            out = outcome(tell, depot, plain, *facts)
            answers.append(" ".join([facts[0], *map(str, out[1])]) if out[0] == "gives" else refusal(out))
        else:
            name = {"goal": "set_goal", "nogoal": "drop_goal"}.get(word, word)
            args = [facts[1], facts[0]] if word == "send" else facts
            out = outcome(getattr(plain, name), *args)
            answers += [] if out[0] == "gives" else [refusal(out)]
    return answers


def refusal(out):
    if out[0] == "NothingLeft":
        return "refused nothing"
    return "refused " + (out[1][0] if out[0] in ("NoBook", "GoalLost") else out[2])


def tell(depot, plain, word, *facts):
    """What is told behind the word, a list."""
    book = Book(joined(plain.rows))
    if word in ("days", "passes", "due", "book", "crews"):
        rows = crews_seen(depot, book) if word == "crews" else book.stretches
        return {"days": [len(plain.rows)], "passes": walk(depot, book).passes, "due": walk(depot, book).due()}.get(
            word, [f"{many}:{','.join(map(str, drivers))}" for many, drivers in rows])
    if word == "verdict":
        return plain.verdict(*facts)
    if word == "soonest":
        answer = least_day(plain.standing(plain.rows), *facts)
        return ["never"] if answer == ("never",) else [answer[1] + len(plain.rows)]
    if word == "number":
        return [number_of(depot, *facts)]
    if word == "values":
        return [f"{c}:{low}-{high}" for c, low, high in pass_values(depot, facts[0], facts[2], facts[1])]
    row = next_row(depot, *facts)
    return ["none"] if row is None else row


def drawn_line(dice, size, today):
    """A deed or a question, often a good one."""
    def number(most):
        return str(dice.randint(0, most))

    drivers = [number(size) for _ in range(dice.choice([1, 1, 1, 2]))]
    passes = [number(4) for _ in range(dice.choice([size] * 9 + [size + 1]))]
    some = [dice.choice(["-", number(4)]) for _ in range(dice.choice([size] * 9 + [size - 1]))]
    days = str(today + dice.choice([0, 1, 3, 6, FAR]))
    return " ".join(dice.choice([
        ["send", number(2), *drivers], ["send", "1", *drivers], ["send", "1", *drivers], ["send", "1", *drivers],
        ["exchange", number(4), number(size), number(size)], ["amend", number(4), *drivers], ["goal", days, *passes],
        ["nogoal"], ["undo"], ["redo"], ["ask", "days"], ["ask", "passes"], ["ask", "due"], ["ask", "book"],
        ["ask", "crews"], ["ask", "verdict", days, *passes], ["ask", "soonest", *passes],
        ["ask", "number", days, *some], ["ask", "values", days, number(size), *some], ["ask", "next", days, *passes]]))


class RunTest(PromiseTest):
    def answers(self, lines, *expected):
        self.same(run_script(HEAD + "\n".join(lines)), list(expected))

    def test_each_question_at_the_beginning(self):
        self.answers(["ask days", "ask passes", "ask due", "ask book", "ask crews"],
                     "days 0", "passes 0 0 0 0", "due 1 1 2 3", "book", "crews")
        self.answers(["ask verdict 7 1 2 2 2", "ask verdict 7 2 0 4 1", "ask verdict 7 2 0 4 2"],
                     "verdict possible", "verdict weekday 1 2 1", "verdict sum 8 7")
        self.answers(["ask soonest 2 2 1 3", "ask soonest 0 0 0 0", "ask soonest 1 1 1 1"],
                     "soonest 4", "soonest 0", "soonest never")
        self.answers(["ask number 7 - - - -", "ask number 7 1 2 - -", "ask number 7 1 2 2 3"],
                     "number 52", "number 3", "number 0")
        self.answers(["ask values 7 2 1 2 - -", "ask values 7 0 1 2 2 -", "ask values 7 0 1 2 2 3"],
                     "values 1:2-2 2:0-3", "values 2:1-1", "values")
        self.answers(["ask next 7 1 2 2 2", "ask next 7 7 0 0 0", "ask next 7 0 0 0 0"],
                     "next 1 2 3 1", "next none", "next 0 1 1 5")

    def test_each_question_behind_deeds(self):
        self.answers(["send 1 1", "send 1 2", "send 2 3", "ask days", "ask passes", "ask due", "ask book", "ask crews"],
                     "days 4", "passes 0 1 1 2", "due 1 2 3 2", "book 1:1 1:2 2:3", "crews 1:3")
        self.answers(["send 4 1", "ask verdict 7 0 4 3 0", "ask verdict 7 1 3 1 2", "ask verdict 7 0 5 0 1"],
                     "verdict possible", "verdict gone 1", "verdict sum 2 3")
        self.answers(["send 1 1", "ask number 7 - - - -", "ask values 7 2 1 2 - -", "ask next 7 1 2 2 2"],
                     "number 52", "values 1:2-2 2:0-3", "next 1 2 3 1")
        self.same(run_script("depot 2 2 1 1 2 1\nsend 1 0 1\nsend 1 0 1\nsend 1 0 3\nask book\nask crews"),
                  ["book 2:0,1 1:0,3", "crews 1:0,1"])

    def test_each_deed(self):
        self.answers(["send 1 1", "exchange 1 0 1", "ask book", "amend 1 1", "ask book", "undo", "ask book", "redo",
                      "goal 7 1 2 2 2", "send 1 1", "send 1 1", "nogoal", "send 1 1", "ask book"],
                     "book 1:0", "book 1:1", "book 1:0", "refused gone", "book 3:1")

    def test_the_depot_line_refused(self):
        for line, code in (("depot 0 1 1", "period"), ("depot 9 13", "period"), ("depot 3 13 1", "quota"),
                           ("depot 3 0 1", "quota"), ("depot 3 1", "drivers"), ("depot 3 1" + " 1" * 13, "drivers"),
                           ("depot 3 1 1 4 0", "first"), ("depot 3 2 1 2", "ones"), ("depot 3 1 2", "ones"),
                           (f"depot 3 1 1 {FAR}", "first")):
            self.same(run_script(line), ["refused " + code])
            self.same(run_script(line + "\nask days\nundo\nask book"), ["refused " + code])

    def test_each_refusal_of_deeds(self):
        self.answers(["send 0 0", "send 1 1 0", "send 1 5", "send 1 0 1", "send 1 2", "send 1", f"send {FAR + 1} 0"],
                     "refused days", "refused runners", "refused driver", "refused count", "refused away",
                     "refused count", "refused days")
        self.answers(["exchange 1 0 1", "send 2 1", "exchange 3 0 1", "exchange 0 9 9", "exchange 1 4 9",
                      "exchange 1 0 4", "exchange 1 0 2"],
                     "refused morning", "refused morning", "refused morning", "refused driver", "refused driver",
                     "refused apart")
        self.answers(["send 2 1", "amend 3 1", "amend 1 1 0", "amend 1 5", "amend 1 0 1", "amend 1 2", "amend 2 0"],
                     "refused morning", "refused runners", "refused driver", "refused count", "refused away",
                     "refused away")
        self.answers(["send 3 1", "goal 2 0 0 0 0", f"goal {FAR + 1} 1 1 1 1", "goal 7 1 2", "goal 7 1 2 2 2",
                      "goal 7 0 3 4 1", "goal 7 0 3 4 0"],
                     "refused days", "refused days", "refused length", "refused gone", "refused sum", "refused weekday")
        self.answers(["nogoal", "undo", "redo"], "refused nothing", "refused nothing", "refused nothing")
        self.answers(["goal 1 0 1 0 0", "send 2 1", "send 1 0", "send 1 1", "send 1 1"],
                     "refused days", "refused gone", "refused days")
        self.answers([f"send {FAR} 1", "send 1 2", "send 1 1", f"ask verdict {FAR} 0 {FAR} 0 0"],
                     "refused total", "refused total", "verdict possible")

    def test_refused_stretches(self):
        head = "depot 1 1 1 1\n"
        lines = [f"send 1 {at % 2}" for at in range(190)]
        self.same(run_script(head + "\n".join(lines + ["ask days", "ask passes"])), ["days 190", "passes 95 95"])

    def test_each_refusal_of_questions(self):
        self.answers(["send 2 1", "ask verdict 1 0 2 0 0", f"ask verdict {FAR + 1} 0 2 0 0", "ask verdict 7 0",
                      "ask verdict 7"], "refused days", "refused days", "refused length", "refused length")
        self.answers(["ask soonest", "ask soonest 1 1 1", "ask soonest 0 0 0 4"],
                     "refused length", "refused length", "refused weekday")
        self.answers([f"ask number {FAR + 1} -", "ask number 7", "ask number 7 - - -"],
                     "refused days", "refused length", "refused length")
        self.answers([f"ask values {FAR + 1} 9 -", "ask values 7 9 -", "ask values 7 4 - - - -", "ask values 7 0"],
                     "refused days", "refused length", "refused driver", "refused length")
        self.answers([f"ask next {FAR + 1} 1", "ask next 7 1 2 3"], "refused days", "refused length")
        self.same(run_script("depot 2 1" + " 1" * 9 + "\nask number 7 -"), ["refused drivers"])
        self.same(run_script("depot 2 1" + " 1" * 9 + f"\nask number {FAR + 1} -"), ["refused drivers"])

    def test_questions_behind_refused_deeds(self):
        self.answers(["send 1 1", "send 1 3", "ask days", "amend 9 1", "ask book", "undo", "undo", "ask days", "redo",
                      "redo", "ask days"],
                     "refused away", "days 1", "refused morning", "book 1:1", "refused nothing", "days 0",
                     "refused nothing", "days 1")

    def test_far_numbers(self):
        self.answers([f"send {FAR - 1} 1", "ask days", "ask passes", "ask crews", "ask soonest 2 2 0 0"],
                     f"days {FAR - 1}", f"passes 0 {FAR - 1} 0 0", f"crews {FAR // 3}:1", f"soonest {FAR + 3}")
        self.answers([f"send {FAR} 1", "ask soonest 1 1 0 0"], f"soonest {FAR + 3}")
        self.answers([f"ask number {FAR} - - - -"], f"number {number_of(Depot(3, 1, [1, 1, 2, 3]), FAR, [None] * 4)}")

    def test_answers_of_the_document(self):
        text = ("depot 3 1 1 1 2 3\nsend 1 1\nask due\nsend 1 3\nundo\nask days\nask soonest 2 2 1 3\n"
                "ask values 7 2 1 2 - -")
        self.same(run_script(text=text), ["due 1 2 2 3", "refused away", "days 0", "soonest 4", "values 1:2-2 2:0-3"])

    def test_reading_comes_first(self):
        self.refused(BadLine, 3, "number", run_script, HEAD + "undo\nsend 01")
        self.refused(BadLine, 1, "words", run_script, "")
        self.refused(BadLine, 2, "word", run_script, "depot 0 0\nno")
        self.refused(BadLine, 200, "lines", run_script, HEAD + "\n" * 200)

    def test_a_depot_alone(self):
        self.same(run_script("depot 1 1 1"), [])
        self.same(run_script("depot 3 1 1 1 2 3\nsend 1 1"), [])

    def test_drawn_scripts(self):
        dice = new_dice(140)
        words = set()
        for _ in range(150):
            period, quota, size = dice.randint(1, 4), dice.randint(1, 2), dice.randint(2, 5)
            firsts = [1] * quota + [dice.randint(1, period) for _ in range(size - quota)]
            head = f"depot {period} {quota} " + " ".join(map(str, firsts))
            lines = [drawn_line(dice, size, dice.randint(0, 4)) for _ in range(dice.randint(5, 60))]
            text = "\n".join([head, *lines])
            if quota == 2:
                text = text.replace("send 1 0", "send 1 0 1")
            answers = run_script(text)
            self.same(answers, expected_answers(text))
            words |= {" ".join(answer.split(" ")[:1 + answer.startswith("refused")]) for answer in answers}
        self.assertLessEqual({"days", "passes", "due", "book", "crews", "verdict", "soonest", "number", "values",
                              "next", "refused away", "refused gone", "refused nothing", "refused apart"}, words)


if __name__ == "__main__":
    unittest.main()
