"""Writes programs anew, with two handlers turned or with handles eased, that come to the same.

A move is told by two functions: look gives the parts of an expression that are to be written anew,
and write puts these, when they are, into its place.
"""

from deedwright.clauses import kind_of
from deedwright.errors import NoTurn
from deedwright.found import Found, tree_row
from deedwright.trees import bodies_of, items_by_name, own_block, parts_of, with_bodies, with_parts


def steady(program, h):
    """Whether a handler's clauses are all jumps that leave the kept number, and its end is just its x."""
    handler = items_by_name(program)[h]
    end = handler[3]
    return end[2] == ("var", end[0]) and all([is_steady(clause) for clause in handler[2]])


def is_steady(clause):
    """Whether a clause is a jump all of whose goes hand on the kept number as it came."""
    if kind_of(clause[3]) != "jump":
        return False
    kept = ("var", clause[2])
    waiting = [clause[3]]
    while waiting != []:
        tree = waiting.pop()
        if tree[0] == "if":
            waiting.extend(tree[2:])
        # A let of that name hides the kept number from the go behind it.
        elif tree[0] == "let" and tree[1] != clause[2]:
            waiting.append(tree[3])
        elif tree[0] == "let" or tree[2] != kept:
            return False
    return True


def may_turn(program, one, other):
    """Whether two handlers may be turned: the first is steady, and neither answers what is the other's."""
    found = Found(program)
    clauses = found.clauses
    meet = clauses[one] & clauses[other]
    meet = meet | (found.rows[one][0] & clauses[other]) | (found.rows[other][0] & clauses[one])
    return meet == 0 and steady(program, one)


def turned(program, one, other):
    """The program with two handlers turned; NoTurn where they may not be."""
    if not may_turn(program, one, other):
        raise NoTurn(f"{one} and {other} may not be turned")

    def look(tree):
        return (tree[3][3],) if is_turned(tree, one, other) else parts_of(tree)

    def write(tree, parts):
        if is_turned(tree, one, other):
            inner = tree[3]
            return inner[:3] + (tree[:3] + (parts[0],),)
        return with_parts(tree, parts)

    return tuple([moved(item, look, write) for item in program])


def is_turned(tree, one, other):
    """Whether an expression is a handle of one with a handle of other at once within it, to be exchanged."""
    if tree[0] != "handle" or tree[1] != one:
        return False
    inner = tree[3]
    return inner[0] == "handle" and inner[1] == other and is_plain(tree[2]) and is_plain(inner[2])


def is_plain(tree):
    """Whether an expression is a number or a variable: done earlier or later, it tells the same."""
    return tree[0] in ("num", "var")


def eased(program):
    """The program with each handle that answers nothing, and has a written number, in the form of two lets."""
    found = Found(program)
    named = items_by_name(program)
    return tuple([eased_item(item, found, named) for item in program])


def eased_item(item, found, named):
    """An item whose handles are eased, by the rows and the items of the program handed in."""
    block = own_block(item)

    def look(tree):
        return (tree[3],) if is_eased(tree, found, block) else parts_of(tree)

    def write(tree, parts):
        if is_eased(tree, found, block):
            end = named[tree[1]][3]
            return ("let", end[0], parts[0], ("let", end[1], tree[2], end[2]))
        return with_parts(tree, parts)

    return moved(item, look, write)


def is_eased(tree, found, block):
    """Whether an expression is a handle to be eased, block being the own block there, or None."""
    if tree[0] != "handle" or tree[2][0] != "num":
        return False
    row = tree_row(found, tree[3], block)
    return ((row[0] | row[1]) & found.clauses[tree[1]]) == 0


def moved(item, look, write):
    """An item with all of its bodies written anew."""
    return with_bodies(item, [written(body, look, write) for body in bodies_of(item)])


def written(body, look, write):
    """A body written anew, from the outside in."""
    # By a loop, so that no depth is too much: each tree is looked at first, and written when the
    # parts that it was looked at for are the last ones written.
    done = []
    waiting = [(body, None)]
    while waiting != []:
        step = waiting.pop()
        tree = step[0]
        if step[1] is None:
            parts = look(tree)
            waiting.append((tree, len(parts)))
            waiting.extend([(part, None) for part in reversed(parts)])
        else:
            at = len(done) - step[1]
            parts = done[at:]
            done = done[:at]
            done.append(write(tree, parts))
    return done[0]
