"""Makes code of a program, in which no handler is searched for.

The parts of code are met one by one, from the function that it is made for on, and numbered as
they are met. A Part is first no more than a plan; its rows are made when those ahead of it have
theirs, and in making them further parts are met.
"""

from deedwright.bits import told
from deedwright.checks import begun_at
from deedwright.clauses import kind_of, lasts
from deedwright.found import Found, spot_row, tree_row
from deedwright.openrows import filled
from deedwright.trees import items_by_name, parts_of, stands_for


class Making:
    """Code that is being made: the Parts and the handlers that were met, with their numbers."""

    def __init__(self, program, taken):
        self.named = items_by_name(program)
        self.found = Found(program)
        self.taken = taken
        self.parts = []
        self.handlers = []
        self.part_numbers = {}
        self.handler_numbers = {}


class Part:
    """A part: its label, the tree that it does, what is known there, and its deeds.

    known is the tuple of the variables; block a pair, the name of the own block and the function
    that was handed on, or None twice; goes has a row for each go, in their order; rows is what was
    made so far; open_ifs has the places of the rows that still have to be told where they lead.
    """

    def __init__(self, label, tree, known, block, deeds):
        self.label = label
        self.tree = tree
        self.known = known
        self.block = block
        self.deeds = deeds
        self.goes = []
        self.rows = []
        self.open_ifs = []


def code_of(program, f, taken=None):
    """The code of a function without block; NoName where f is none.

    The clauses of the pairs (h, d) in taken are not made jumps.
    """
    begun_at(f, items_by_name(program))
    pairs = [] if taken is None else [tuple(pair) for pair in taken]
    making = Making(program, pairs)
    function_part(making, f, None)
    at = 0
    while at < len(making.parts):
        make_rows(making, making.parts[at])
        at = at + 1
    parts = [(part.label, part.deeds, tuple(part.rows)) for part in making.parts]
    return (tuple(parts), tuple(making.handlers))


def function_part(making, f, handed):
    """The number of the part of a function with what is handed on, or None."""
    label = ("def", f, handed)
    if label not in making.part_numbers:
        item = making.named[f]
        deeds = deeds_by(making, spot_row(making.found, f, handed))
        making.part_numbers[label] = add_part(making, Part(label, item[4], item[2], (item[3], handed), deeds))
    return making.part_numbers[label]


def handled_part(making, tree, known, block):
    """The number of a new part: the handled b of a handle, with what is known there."""
    own = tree_row(making.found, tree[3], block[0])
    handed = 0 if block[1] is None else spot_row(making.found, block[1], None)
    deeds = deeds_by(making, filled(own, handed))
    return add_part(making, Part(("body", tree[1], None), tree[3], known, block, deeds))


def handler_number(making, h):
    """The number of a handler, the parts of which are met with it."""
    if h not in making.handler_numbers:
        item = making.named[h]
        deeds = deeds_by(making, spot_row(making.found, h, None))
        clauses = [clause_made(making, h, clause, deeds) for clause in item[2]]
        end = item[3]
        last = add_part(making, Part(("end", h, None), end[2], end[:2], (None, None), deeds))
        making.handler_numbers[h] = len(making.handlers)
        making.handlers.append((h, deeds, tuple(clauses), last))
    return making.handler_numbers[h]


def clause_made(making, h, clause, deeds):
    """What a handler has of a clause: its deed, "jump" or "take", and the number of its part."""
    deed = clause[0]
    body = clause[3]
    is_jump = kind_of(body) == "jump" and (h, deed) not in making.taken
    part = Part(("on", h, deed), body, clause[1:3], (None, None), deeds)
    part.goes = [("jump",) if is_jump else ("go", last) for last in lasts(body)]
    return (deed, "jump" if is_jump else "take", add_part(making, part))


def add_part(making, part):
    """Adds a part, and gives its number."""
    making.parts.append(part)
    return len(making.parts) - 1


def deeds_by(making, row):
    """The sorted tuple of the deeds of a row."""
    return tuple(told(row, making.found.deeds))


def places(some, deeds, but):
    """For each of some deeds its place among the deeds, or -1 where it is among those of but."""
    return tuple([-1 if deed in but else deeds.index(deed) for deed in some])


def make_rows(making, part):
    """Makes the rows of a part."""
    # What is still to be made, the next one last: triples of what it is, its tree and what is known.
    waiting = [("tree", part.tree, part.known)]
    goes_made = 0
    while waiting != []:
        step = waiting.pop()
        tree = step[1]
        if step[0] == "tree":
            waiting.extend(list(reversed(steps_of(tree, step[2]))))
        elif step[0] == "if":
            lead_here(part, tree)
        elif tree[0] == "go":
            part.rows.append(part.goes[goes_made])
            goes_made = goes_made + 1
        else:
            part.rows.append(row_made(making, part, tree, step[2]))
    part.rows.append(("give",))


def steps_of(tree, known):
    """What is made of a tree, in its order.

    ("tree", part, known) stands for all rows of a part of it, ("row", tree, known) for the row that
    the tree itself has, ("row", (word,), known) for one that is but a word; ("if", word, known) for
    a row that leads on, or for the place where an if is over.
    """
    inner = [("tree", part, known) for part in parts_of(tree)]
    if tree[0] == "let":
        within = ("tree", tree[3], known + (tree[1],))
        return [inner[0], ("row", ("keep",), known), within, ("row", ("drop",), known)]
    if tree[0] == "if":
        return [inner[0], ("if", "unless", known), inner[1], ("if", "skip", known), inner[2], ("if", "over", known)]
    if tree[0] == "guard":
        return [inner[0], ("row", ("guard",), known), inner[1], ("row", ("clean",), known)]
    if tree[0] == "handle":
        # What is handled has a part of its own.
        return [inner[0], ("row", tree, known)]
    return inner + [("row", tree, known)]


def lead_here(part, word):
    """Makes an if's row that leads on, or none where the if is over; the one ahead of it leads behind that."""
    at = len(part.rows)
    if word != "over":
        part.rows.append((word,))
    if word != "unless":
        ahead = part.open_ifs.pop()
        part.rows[ahead] = part.rows[ahead] + (len(part.rows),)
    if word != "over":
        part.open_ifs.append(at)


def row_made(making, part, tree, known):
    """The row of an expression that comes behind those of its parts."""
    word = tree[0]
    if word == "var":
        # The last one of that name: the others are hidden.
        return ("get", max([at for at, name in enumerate(known) if name == tree[1]]))
    if word == "op":
        return ("op", tree[1])
    if word == "do":
        return ("do", part.deeds.index(tree[1]))
    if word == "call":
        return call_made(making, part, tree)
    if word == "handle":
        return under_made(making, part, tree, known)
    # A num, and what is but a word, are their own rows.
    return tree


def call_made(making, part, tree):
    """The row of a call, an own block being what was handed on."""
    number = function_part(making, stands_for(tree[1], part.block), stands_for(tree[2], part.block))
    picks = places(making.parts[number].deeds, part.deeds, ())
    return ("call", number, len(tree[3]), picks)


def under_made(making, part, tree, known):
    """The row of a handle."""
    at = handler_number(making, tree[1])
    handler = making.handlers[at]
    number = handled_part(making, tree, known, part.block)
    needs = places(handler[1], part.deeds, ())
    picks = places(making.parts[number].deeds, part.deeds, [clause[0] for clause in handler[2]])
    return ("under", at, number, needs, picks)
