"""Checks a program: whether its names stand for something, its calls have what is taken, its goes may stand.

A body is looked at with what is known round it: items, a dict of the program's items by their
names; block, the name of the own block or None; known, a tuple of the variables; and a place.
"""

from deedwright.errors import NoCount, NoGo, NoName
from deedwright.trees import items_by_name, parts_of

# The places: in a clause a go and a handle may stand, in an end neither. FREE is where only a
# handle may: in a function, and in what is handled, wherever that stands.
CLAUSE = "clause"
END = "end"
FREE = "free"


def check(program):
    """None, or NoName, NoCount or NoGo at the first thing that is wrong."""
    refuse_twice([item[1] for item in program])
    items = items_by_name(program)
    for item in program:
        if item[0] == "def":
            check_function(item, items)
        else:
            check_handler(item, items)


def refuse_twice(names):
    """Refuses names of which two are the same."""
    told = {}
    for name in names:
        if name in told:
            raise NoName(f"{name} is told twice")
        told[name] = True


def check_function(item, items):
    """Refuses a function for its params, its block or its body."""
    params = item[2]
    block = item[3]
    if block is None:
        refuse_twice(params)
    else:
        refuse_twice(params + (block,))
        if block in items:
            raise NoName(f"the block {block} has the name of an item")
    check_body(item[4], params, FREE, block, items)


def check_handler(item, items):
    """Refuses a handler for its deeds, its clauses or its end."""
    refuse_twice([clause[0] for clause in item[2]])
    for clause in item[2]:
        check_answer(clause[1:], CLAUSE, items)
    check_answer(item[3], END, items)


def check_answer(answer, place, items):
    """Refuses what a clause or an end holds: x, s and a body, which knows no more than these two."""
    known = answer[:2]
    refuse_twice(known)
    check_body(answer[2], known, place, None, items)


def check_body(body, known, place, block, items):
    """Refuses a body for the first of its expressions, each ahead of its parts, that is wrong."""
    waiting = [(body, known, place)]
    while waiting != []:
        looked = waiting.pop()
        check_expression(looked[0], looked[1], looked[2], block, items)
        waiting.extend(list(reversed(inner(looked[0], looked[1], looked[2]))))


def inner(tree, known, place):
    """The parts of an expression, from left to right, each with what is known there and its place."""
    if tree[0] == "let":
        return [(tree[2], known, place), (tree[3], known + (tree[1],), place)]
    if tree[0] == "handle":
        return [(tree[2], known, place), (tree[3], known, FREE)]
    return [(part, known, place) for part in parts_of(tree)]


def check_expression(tree, known, place, block, items):
    """Refuses an expression for what it is itself, not for its parts."""
    if tree[0] == "var":
        check_variable(tree[1], known)
    if tree[0] == "call":
        check_call(tree, block, items)
    if tree[0] == "handle":
        check_handle(tree, place, items)
    if tree[0] == "go" and place != CLAUSE:
        raise NoGo("a go stands where none may")


def check_variable(name, known):
    """Refuses a variable that stands for nothing."""
    if name not in known:
        raise NoName(f"{name} is no variable here")


def check_handle(tree, place, items):
    """Refuses a handle of what is no handler, or in an end."""
    name = tree[1]
    if name not in items or items[name][0] != "handler":
        raise NoName(f"{name} is no handler")
    if place == END:
        raise NoGo("a handle stands in an end")


def check_call(tree, block, items):
    """Refuses a call for what it calls, for what it hands on, or for the count of either."""
    called = tree[1]
    handed = tree[2]
    if called != block and not is_function(called, items):
        raise NoName(f"{called} can't be called")
    if handed is not None and handed != block and not may_be_handed(handed, items):
        raise NoName(f"{handed} can't be handed on")
    # The own block stands for a function that may be handed on, so it takes what these take.
    count = 1 if called == block else len(items[called][2])
    takes_block = called != block and items[called][3] is not None
    if (handed is not None) != takes_block:
        raise NoCount(f"a block is handed to {called}, which takes none, or lacks")
    if len(tree[3]) != count:
        raise NoCount(f"{called} is called with too few or too many numbers")


def is_function(name, items):
    """Whether a name is that of a function."""
    return name in items and items[name][0] == "def"


def may_be_handed(name, items):
    """Whether a name is that of a function that may be handed on: one param and no block."""
    return is_function(name, items) and len(items[name][2]) == 1 and items[name][3] is None


def begun_at(f, items):
    """The function of a name where a run may begin: one without block; NoName where there is none."""
    if not is_function(f, items) or items[f][3] is not None:
        raise NoName(f"{f} is no function without block")
    return items[f]


def check_numbers(function, numbers):
    """Refuses another number of numbers than a function has params."""
    if len(numbers) != len(function[2]):
        name = function[1]
        raise NoCount(f"{name} is begun with too few or too many numbers")
