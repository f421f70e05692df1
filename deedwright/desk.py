"""A desk, which is told rows and answers each with a text.

Each row is first looked at for its form alone; only then is asked whether its names stand for
something, and only when nothing is refused any more does the desk change.
"""

from deedwright.checks import begun_at, check, check_numbers, refuse_twice
from deedwright.code import code_of
from deedwright.errors import Lacking, NoHold, NoName, NoRow
from deedwright.found import open_rows
from deedwright.machine import run_code
from deedwright.reader import read
from deedwright.trees import is_name, is_number, items_by_name
from deedwright.walk import begun, gone_on
from deedwright.ways import let_by

MOST_SHORT_FIGURES = 4
MOST_TURNS = 2000


class Desk:
    """Keeps a program, the runs that wait by their numbers, and the record of the run done last."""

    def __init__(self):
        self.program = ()
        self.runs = {}
        self.record = []

    def say(self, row):
        """The answer to a row; NoRow where it is none, or another refusal, that changes nothing."""
        words = row.split(" ")
        if words[0] not in ANSWERS:
            raise NoRow("no row begins so")
        return ANSWERS[words[0]](self, words[1:])


def say_put(desk, words):
    """Puts the items that a text writes in the place of those of their names, and new ones behind."""
    if words == []:
        raise NoRow("put is told with a text")
    # Parted at single blanks, the words are joined by these to just the text that they come from.
    items = read(" ".join(words))
    refuse_twice([item[1] for item in items])
    named = items_by_name(desk.program)
    for item in items:
        named[item[1]] = item
    program = tuple(named.values())
    check(program)
    desk.program = program
    return "ok"


def say_row(desk, words):
    """Tells the open row of an item."""
    refuse_form(len(words) == 1)
    f = name_said(words[0])
    table = open_rows(desk.program)
    if f not in table:
        raise NoName(f"{f} is no item")
    return " ".join(table[f][0] + ["/"] + table[f][1])


def say_lack(desk, words):
    """Tells the deed that lacks where some are answered by hand, and its way, or that none does."""
    refuse_form(len(words) >= 1)
    names = [name_said(word) for word in words]
    begun_at(names[0], items_by_name(desk.program))
    try:
        let_by(desk.program, names[0], names[1:])
    except Lacking as lacking:
        return " ".join([lacking.deed, "by"] + [spot[1] for spot in lacking.way])
    return "none"


def say_run(desk, words):
    """Begins a run."""
    refuse_form(len(words) >= 2)
    f = name_said(words[0])
    turns = turns_said(words[1])
    numbers = [number_said(word) for word in words[2:]]
    return halt_told(desk, begun(desk.program, f, numbers, turns))


def say_on(desk, words):
    """Goes on with a run that waits."""
    refuse_form(len(words) == 2)
    at = short_said(words[0])
    answer = number_said(words[1])
    if at not in desk.runs:
        raise NoHold(f"no run waits by {at}")
    return halt_told(desk, gone_on(desk.runs[at], answer))


def say_code(desk, words):
    """Runs the code of a function."""
    refuse_form(len(words) >= 3 and words.count("/") == 1)
    f = name_said(words[0])
    turns = turns_said(words[1])
    at = words.index("/")
    numbers = [number_said(word) for word in words[2:at]]
    answers = [number_said(word) for word in words[at + 1 :]]
    check_numbers(begun_at(f, items_by_name(desk.program)), numbers)
    ran = run_code(code_of(desk.program, f), numbers, answers, turns)
    desk.record = ran[1]
    return words_joined(ran[0] + ("copied", ran[3]))


def say_last(desk, words):
    """Tells the record of the run that was done last."""
    refuse_form(words == [])
    return "; ".join([words_joined(entry) for entry in desk.record])


# What is done of a row, by its first word.
ANSWERS = {
    "put": say_put,
    "row": say_row,
    "lack": say_lack,
    "run": say_run,
    "on": say_on,
    "code": say_code,
    "last": say_last,
}


def halt_told(desk, halt):
    """Tells how a run halted, which waits from now on where it asks."""
    desk.record = halt.record
    if halt.end[0] != "asks":
        return words_joined(halt.end)
    at = len(desk.runs) + 1
    desk.runs[at] = halt
    return words_joined(("held", at) + halt.end[1:])


def words_joined(things):
    """Words and numbers with blanks between."""
    return " ".join([str(thing) for thing in things])


def refuse_form(is_right):
    """Refuses a row that hasn't the words that it must have."""
    if not is_right:
        raise NoRow("words lack in the row, or are too many")


def name_said(word):
    """A name."""
    if not is_name(word):
        raise NoRow(f"{word!r} is no name")
    return word


def number_said(word):
    """A number: figures, perhaps behind a -."""
    figures = word[1:] if word.startswith("-") else word
    if not is_number(figures) or word == "-0":
        raise NoRow(f"{word!r} is no number")
    return int(word)


def short_said(word):
    """A number of few figures, without a -."""
    if not is_number(word) or len(word) > MOST_SHORT_FIGURES:
        raise NoRow(f"{word!r} is no number, or too great a one")
    return int(word)


def turns_said(word):
    """A bound of turns."""
    turns = short_said(word)
    if turns > MOST_TURNS:
        raise NoRow(f"{turns} is too great a bound")
    return turns
