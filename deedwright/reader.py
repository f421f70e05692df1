"""Reads a text to the program that it writes.

The text is parted into words, these are nested by their brackets into lists, and the lists
are read as items and expressions. A thing is either a word or the list of what stands in
one pair of brackets.
"""

from deedwright.errors import NoText
from deedwright.trees import CLAUSE_FORM, END_FORM, FORMS, SIGNS, is_name, is_number

DEEPEST = 24

# Of these the text has the same things, in the same order, as the tuple.
ALIKE = ("let", "if", "do", "handle", "go", "guard")


def read(text):
    """The program that a text writes; NoText where it writes none."""
    return tuple([item_of(thing) for thing in nested(words_of(text))])


def words_of(text):
    """The words of a text, each bracket being one by itself."""
    # Parted at blanks alone: a tab parts nothing and so spoils the word that it stands in.
    spaced = text.replace("\n", " ").replace("(", " ( ").replace(")", " ) ")
    return [word for word in spaced.split(" ") if word != ""]


def nested(words):
    """The things that stand outside of all brackets."""
    # The depth is bounded here, by a loop: what is done by recursion later can't go deeper.
    around = []
    inner = []
    for word in words:
        if word == "(":
            if len(around) == DEEPEST:
                raise NoText("brackets too deep within one another")
            around.append(inner)
            inner = []
        elif word == ")":
            if around == []:
                raise NoText("a bracket is closed that was not opened")
            closed = inner
            inner = around.pop()
            inner.append(closed)
        else:
            inner.append(word)
    if around != []:
        raise NoText("a bracket is not closed")
    return inner


def item_of(thing):
    """A function or a handler."""
    head = head_of(thing)
    if head == "def":
        return function_of(thing[1:])
    if head == "handler":
        return handler_of(thing[1:])
    raise NoText(f"no item begins with {head!r}")


def function_of(things):
    """A function, by what stands behind its def."""
    if len(things) not in (3, 4):
        raise NoText("a def with too few or too many things")
    block = name_of(things[2]) if len(things) == 4 else None
    return ("def", name_of(things[0]), names_of(things[1]), block, expression_of(things[-1]))


def handler_of(things):
    """A handler, by what stands behind that word."""
    if len(things) < 2:
        raise NoText("a handler with too few things")
    clauses = [headed("on", thing, CLAUSE_FORM) for thing in things[1:-1]]
    return ("handler", name_of(things[0]), tuple(clauses), headed("end", things[-1], END_FORM))


def headed(word, thing, form):
    """What stands behind just that word in a pair of brackets, read by a form."""
    if head_of(thing) != word:
        raise NoText(f"brackets with {word!r} are lacking")
    return formed(thing[1:], form)


def formed(things, form):
    """The things, each read as the form tells at its place."""
    if len(things) != len(form):
        raise NoText("too few or too many things in a pair of brackets")
    return tuple([read_as(kind, thing) for kind, thing in zip(form, things)])


def read_as(kind, thing):
    """A thing, read as a name or as a part."""
    return name_of(thing) if kind == "name" else expression_of(thing)


def expression_of(thing):
    """An expression."""
    if isinstance(thing, str):
        return ("num", int(thing)) if is_number(thing) else ("var", name_of(thing))
    head = head_of(thing)
    if head in SIGNS:
        return ("op", head) + formed(thing[1:], FORMS["op"][1:])
    if head in ALIKE:
        return (head,) + formed(thing[1:], FORMS[head])
    if head == "call":
        return call_of(thing[1:])
    if head == "hand":
        return hand_of(thing[1:])
    raise NoText(f"no expression begins with {head!r}")


def call_of(things):
    """A call that hands no block on, by what stands behind that word."""
    if things == []:
        raise NoText("a call with too few things")
    return ("call", name_of(things[0]), None, expressions_of(things[1:]))


def hand_of(things):
    """A call that hands a block on, by what stands behind the hand."""
    if len(things) < 2:
        raise NoText("a hand with too few things")
    return ("call", name_of(things[0]), name_of(things[1]), expressions_of(things[2:]))


def expressions_of(things):
    """Expressions, any number of them."""
    return tuple([expression_of(thing) for thing in things])


def head_of(thing):
    """The first word of a pair of brackets."""
    if isinstance(thing, str):
        raise NoText(f"{thing!r} stands where brackets are asked")
    if thing == [] or not isinstance(thing[0], str):
        raise NoText("brackets that don't begin with a word")
    return thing[0]


def names_of(thing):
    """The names in a pair of brackets."""
    if isinstance(thing, str):
        raise NoText(f"{thing!r} stands where brackets are asked")
    return tuple([name_of(part) for part in thing])


def name_of(thing):
    """A name."""
    if not isinstance(thing, str):
        raise NoText("brackets stand where a name is asked")
    if not is_name(thing):
        raise NoText(f"{thing!r} is no name")
    return thing
