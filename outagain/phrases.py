"""Scripts: reading their lines into statements, and writing statements as lines."""

from outagain.errors import BadLine

MOST_LINES = 200
MOST_DIGITS = 31
UNKNOWN = "-"
DEPOT = "depot"
ASK = "ask"

# For each first word, and for each word behind ask: how many numbers follow, and what the words
# behind them tell, of which there may be any number.
FORMS = {
    "depot": (2, "numbers"),
    "send": (1, "numbers"),
    "exchange": (3, "nothing"),
    "amend": (1, "numbers"),
    "goal": (1, "numbers"),
    "nogoal": (0, "nothing"),
    "undo": (0, "nothing"),
    "redo": (0, "nothing"),
}
QUESTIONS = {
    "days": (0, "nothing"),
    "passes": (0, "nothing"),
    "due": (0, "nothing"),
    "book": (0, "nothing"),
    "crews": (0, "nothing"),
    "verdict": (1, "numbers"),
    "soonest": (0, "numbers"),
    "number": (1, "told"),
    "values": (2, "told"),
    "next": (1, "numbers"),
}


def read_script(text):
    """The list of statements of a script."""
    lines = text.split("\n")
    if len(lines) > MOST_LINES:
        raise BadLine(MOST_LINES, "lines")
    return [read_line(at, line) for at, line in enumerate(lines, 1)]


def write_script(statements):
    """The script with these statements."""
    return "\n".join([" ".join(written_words(statement)) for statement in statements])


def read_line(at, line):
    """The statement of line number at, counted from 1."""
    words = line.split(" ")
    if "" in words:
        raise BadLine(at, "words")
    names = names_of(words)
    if not names:
        raise BadLine(at, "word")
    if (at == 1) != (names[0] == DEPOT):
        raise BadLine(at, "depot")
    many, others = QUESTIONS[names[1]] if names[0] == ASK else FORMS[names[0]]
    told = words[len(names):]
    if len(told) < many or (len(told) > many and others == "nothing"):
        raise BadLine(at, "count")
    numbers = [read_number(at, word) for word in told[:many]]
    if others == "nothing":
        return tuple(names + numbers)
    rest = [None if word == UNKNOWN and others == "told" else read_number(at, word) for word in told[many:]]
    return tuple(names + numbers + [tuple(rest)])


def names_of(words):
    """The words of a line that name its form, or [] if there is no such form."""
    if words[0] in FORMS:
        return words[:1]
    if words[0] == ASK and len(words) > 1 and words[1] in QUESTIONS:
        return words[:2]
    return []


def read_number(at, word):
    """The number that a word of line number at stands for."""
    if not word.isdigit() or len(word) > MOST_DIGITS or (word[0] == "0" and word != "0"):
        raise BadLine(at, "number")
    return int(word)


def written_words(statement):
    """The words of the line of a statement."""
    words = []
    for part in statement:
        if isinstance(part, (list, tuple)):
            words.extend(written_words(part))
        else:
            words.append(UNKNOWN if part is None else str(part))
    return words
