"""The lines of scripts by the words of the document."""

import re

FORMS = """depot PERIOD QUOTA FIRST...
send DAYS RUNNER...
exchange MORNING ONE OTHER
amend MORNING RUNNER...
goal DAYS PASS...
nogoal
undo
redo
ask days
ask passes
ask due
ask book
ask crews
ask verdict DAYS PASS...
ask soonest WEEKDAY...
ask number DAYS TOLD...
ask values DAYS DRIVER TOLD...
ask next DAYS PASS...""".split("\n")
NUMBER = re.compile("0|[1-9][0-9]{0,30}")


def form_of(words):
    """The words of the form of a line, or None."""
    for form in map(str.split, FORMS):
        names = [word for word in form if word.islower()]
        if words[:len(names)] == names:
            return form
    return None


def fault_of(at, line):
    """The code of the error for line number at, or None."""
    words = line.split(" ")
    if line == "" or line[0] == " " or line[-1] == " " or "  " in line:
        return "words"
    form = form_of(words)
    if form is None:
        return "word"
    if (form[0] == "depot") != (at == 1):
        return "depot"
    fixed = [word for word in form if not word.endswith("...")]
    if len(words) < len(fixed) or (len(words) > len(fixed) and fixed == form):
        return "count"
    for word, name in zip(words, fixed + [form[-1]] * len(words)):
        if name.isupper() and not (word == "-" and name == "TOLD...") and not NUMBER.fullmatch(word):
            return "number"
    return None


def first_fault(text):
    """The pair (line, code) of the first error of a script, or None."""
    lines = text.split("\n")
    if len(lines) > 200:
        return (200, "lines")
    faults = [(at, fault_of(at, line)) for at, line in enumerate(lines, 1)]
    return next((fault for fault in faults if fault[1]), None)


def statement_of(line):
    """The statement of a good line."""
    words = line.split(" ")
    form = form_of(words)
    names = [word for word in form if word.islower()]
    told = [None if word == "-" else int(word) for word in words[len(names):]]
    if not form[-1].endswith("..."):
        return tuple(names + told)
    many = len(form) - len(names) - 1
    return tuple(names + told[:many] + [tuple(told[many:])])
