"""Point 49: reading and writing scripts."""

import unittest

from outagain.errors import BadLine
from outagain.phrases import read_script, write_script
from tests.grammar import FORMS, first_fault, statement_of
from tests.support import FAR, PromiseTest, new_dice

HEAD = "depot 3 1 1 1 2 3\n"
GREAT = 10 ** 31 - 1
VOCABULARY = """depot send exchange amend goal nogoal undo redo ask ask ask ask days passes due book crews verdict
soonest number values next Ask days: 0 1 2 3 7 12 - - 01 00 -1 +1 1.0 x 0x1 1_0 ~ ! sends undo.""".split()
VOCABULARY += [str(GREAT), str(GREAT + 1)]
NO_NUMBERS = """01 00 -1 +1 x 1x x1 1.0 1,0 1_0 0x1 - -- '1' 1e3""".split() + [str(GREAT + 1)]


def drawn_number(dice):
    return str(dice.choice([0, 1, 2, 9, 10, 123, FAR, GREAT, dice.randint(0, GREAT)]))


def drawn_line(dice, form):
    """A good line of this form."""
    words = []
    for word in form.split():
        many = dice.choice([0, 1, 2, 5, 13]) if word.endswith("...") else 1
        for _ in range(many):
            if word.islower():
                words.append(word)
            else:
                words.append("-" if word == "TOLD..." and dice.random() < 0.4 else drawn_number(dice))
    return " ".join(words)


def drawn_script(dice, lines):
    """A good script of so many lines."""
    forms = FORMS[:1] + dice.choices(FORMS[1:], k=lines - 1)
    return "\n".join([drawn_line(dice, form) for form in forms])


class ReadTest(PromiseTest):
    def reads(self, text):
        """The statements are those of the lines, and writing them gives the script."""
        statements = read_script(text)
        self.same(statements, [statement_of(line) for line in text.split("\n")])
        self.same(self.untouched(write_script, statements), text)
        self.same(write_script(tuple(statements)), text)
        self.same(write_script([[list(part) if isinstance(part, tuple) else part for part in statement]
                                for statement in statements]), text)

    def test_each_form(self):
        for line, statement in (
                ("depot 3 1 1 1 2 3", ("depot", 3, 1, (1, 1, 2, 3))), ("depot 3 1", ("depot", 3, 1, ())),
                ("depot 0 99 7", ("depot", 0, 99, (7,)))):
            self.same(read_script(line), [statement])
            self.reads(line)
        for line, statement in (
                ("send 3 0 2", ("send", 3, (0, 2))), ("send 3", ("send", 3, ())),
                ("exchange 4 0 1", ("exchange", 4, 0, 1)), ("amend 5 2", ("amend", 5, (2,))),
                ("amend 5", ("amend", 5, ())), ("goal 7 1 2 2 2", ("goal", 7, (1, 2, 2, 2))),
                ("goal 0", ("goal", 0, ())),
                ("nogoal", ("nogoal",)), ("undo", ("undo",)), ("redo", ("redo",)), ("ask days", ("ask", "days")),
                ("ask passes", ("ask", "passes")), ("ask due", ("ask", "due")), ("ask book", ("ask", "book")),
                ("ask crews", ("ask", "crews")), ("ask verdict 7 1 2", ("ask", "verdict", 7, (1, 2))),
                ("ask verdict 7", ("ask", "verdict", 7, ())), ("ask soonest 2 0", ("ask", "soonest", (2, 0))),
                ("ask soonest", ("ask", "soonest", ())), ("ask number 7 - 2 -", ("ask", "number", 7, (None, 2, None))),
                ("ask number 7", ("ask", "number", 7, ())), ("ask values 7 0 - 2", ("ask", "values", 7, 0, (None, 2))),
                ("ask values 7 0", ("ask", "values", 7, 0, ())), ("ask next 7 1 2", ("ask", "next", 7, (1, 2))),
                ("ask next 7", ("ask", "next", 7, ()))):
            self.same(read_script(HEAD + line)[1:], [statement])
            self.reads(HEAD + line)

    def test_drawn_scripts(self):
        dice = new_dice(130)
        for _ in range(200):
            self.reads(drawn_script(dice, dice.choice([1, 2, 10, 40])))

    def test_numbers_of_31_digits(self):
        text = f"depot {GREAT} {GREAT} {GREAT}\nsend {GREAT} {GREAT}\nask number {GREAT} {GREAT} -"
        self.same(read_script(text)[1], ("send", GREAT, (GREAT,)))
        self.reads(text)
        self.refused(BadLine, 2, "number", read_script, HEAD + f"send {GREAT + 1}")
        self.refused(BadLine, 2, "number", read_script, HEAD + "send 1 " + "9" * 32)

    def test_200_and_201_lines(self):
        dice = new_dice(131)
        self.reads(drawn_script(dice, 199))
        self.reads(drawn_script(dice, 200))
        self.refused(BadLine, 200, "lines", read_script, drawn_script(dice, 201))
        self.refused(BadLine, 200, "lines", read_script, "\n" * 200)
        self.refused(BadLine, 1, "words", read_script, "\n" * 199)
        self.refused(BadLine, 200, "lines", read_script, "no\n" + drawn_script(dice, 200))
        self.refused(BadLine, 200, "lines", read_script, drawn_script(dice, 200) + "\n")
        self.refused(BadLine, 200, "words", read_script, drawn_script(dice, 199) + "\n")

    def test_words(self):
        for line in ("", " ", "  ", " undo", "undo ", "send 1  0", "  undo", "x  y", "ask ", " ask", "send  01"):
            self.refused(BadLine, 2, "words", read_script, HEAD + line)
            self.refused(BadLine, 2, "words", read_script, HEAD + line + "\nno\n")
        self.refused(BadLine, 1, "words", read_script, "")
        self.refused(BadLine, 1, "words", read_script, "depot 3 1 1 ")
        self.refused(BadLine, 3, "words", read_script, HEAD + "undo\n")
        self.refused(BadLine, 2, "words", read_script, HEAD)

    def test_word(self):
        for line in ("ask", "days", "Undo", "undo.", "ask Days", "ask ask", "ask undo", "ask depot", "7", "-",
                     "ask 7 days",
                     "ask - 1 1", "set_goal 7 1", "asks days", "goal: 7", "sends 01", "ask nothing 01 -"):
            self.refused(BadLine, 2, "word", read_script, HEAD + line)
            self.refused(BadLine, 1, "word", read_script, line)

    def test_depot(self):
        for line in ("undo", "ask days", "send 01", "send", "exchange 1", "ask verdict"):
            self.refused(BadLine, 1, "depot", read_script, line)
        for line in ("depot 3 1 1", "depot", "depot 03"):
            self.refused(BadLine, 2, "depot", read_script, HEAD + line)
            self.refused(BadLine, 3, "depot", read_script, HEAD + "undo\n" + line)

    def test_count(self):
        for line in ("send", "exchange", "exchange 1", "exchange 1 0", "exchange 1 0 1 2", "exchange x 01", "amend",
                     "goal", "nogoal 1", "undo 1", "redo x", "ask days 1", "ask passes 0", "ask due -", "ask book 1",
                     "ask crews x",
                     "ask verdict", "ask number", "ask values", "ask values 7", "ask values x", "ask next",
                     "undo undo", "exchange 1 2 3 x"):
            self.refused(BadLine, 2, "count", read_script, HEAD + line)
        for line in ("depot", "depot 3", "depot x"):
            self.refused(BadLine, 1, "count", read_script, line)

    def test_number(self):
        for word in NO_NUMBERS:
            for line in (f"send {word}", f"send 1 {word}", f"send 1 0 {word}", f"exchange {word} 0 1",
                         f"exchange 1 {word} 1", f"exchange 1 0 {word}", f"amend {word} 1", f"amend 1 {word}",
                         f"goal {word} 1", f"goal 1 {word}",
                         f"ask verdict {word}", f"ask verdict 7 {word}", f"ask soonest {word}", f"ask number {word} 1",
                         f"ask values {word} 1 1", f"ask values 1 {word} -", f"ask next {word}",
                         f"ask next 1 2 {word}"):
                self.refused(BadLine, 2, "number", read_script, HEAD + line)
            for line in (f"ask number 1 {word}", f"ask values 1 1 {word}", f"ask number 7 - {word} 1"):
                if word != "-":
                    self.refused(BadLine, 2, "number", read_script, HEAD + line)
            for line in (f"depot {word} 1 1", f"depot 3 {word}", f"depot 3 1 1 {word}"):
                self.refused(BadLine, 1, "number", read_script, line)

    def test_drawn_lines_with_several_faults(self):
        dice = new_dice(132)
        found = set()
        for _ in range(6000):
            lines = drawn_script(dice, dice.randint(1, 4)).split("\n")
            for _ in range(dice.randint(1, 2)):
                at = dice.randrange(len(lines))
                words = lines[at].split(" ")
                place = dice.randint(0, len(words))
                words[place:place + dice.randint(0, 1)] = dice.choices(VOCABULARY, k=dice.randint(0, 1))
                lines[at] = " ".join(words)
                if dice.random() < 0.1:
                    place = dice.randint(0, len(lines[at]))
                    lines[at] = lines[at][:place] + " " + lines[at][place:]
                if dice.random() < 0.1:
                    dice.shuffle(lines)
            text = "\n".join(lines)
            fault = first_fault(text)
            if fault is None:
                self.reads(text)
            else:
                self.refused(BadLine, *fault, read_script, text)
            found.add(fault and fault[1])
        self.assertEqual(found, {None, "words", "word", "depot", "count", "number"})

    def test_the_first_bad_line_counts(self):
        self.refused(BadLine, 2, "number", read_script, HEAD + "send 01\nno\n")
        self.refused(BadLine, 3, "count", read_script, HEAD + "send 1\nundo 1\nsend 01")
        self.refused(BadLine, 1, "word", read_script, "x\n\n")

    def test_what_is_returned_may_be_changed(self):
        read_script(HEAD + "undo").clear()
        self.same(read_script(text=HEAD + "undo"), [("depot", 3, 1, (1, 1, 2, 3)), ("undo",)])
        self.same(write_script(statements=[("depot", 3, 1, (1, 1, 2, 3)), ("undo",)]), HEAD + "undo")


if __name__ == "__main__":
    unittest.main()
