"""What is left of the deeds of bodies when the handles in them have answered theirs.

No deed comes out of a part that stands in the handled b of a handle whose handler has a clause
for it: rows and ways both hang on this, and on nothing else of where a part stands.
"""

from deedwright.bits import bits_by_deed, less
from deedwright.trees import bodies_of, own_block, parts_of


class Rest:
    """What is left of some bodies, those of an item or others.

    block is the name of the own block there, or None; done the row of the deeds that the bodies do
    and that come out of them; uses has a pair (tree, answered) for each call and each handle in
    them: answered is the row of the deeds of it that don't come out.
    """

    def __init__(self, block):
        self.block = block
        self.done = 0
        self.uses = []


def rests_of(program, deeds):
    """What is left of each item, by the items' names in their order."""
    bits = bits_by_deed(deeds)
    clauses = clause_rows(program, bits)
    rests = {}
    for item in program:
        rests[item[1]] = rest_of(bodies_of(item), own_block(item), clauses, bits)
    return rests


def clause_rows(program, bits):
    """For each handler the row of the deeds that it has a clause for."""
    rows = {}
    for item in program:
        if item[0] == "handler":
            rows[item[1]] = sum([bits[clause[0]] for clause in item[2]])
    return rows


def rest_of(bodies, block, clauses, bits):
    """What is left of bodies where a block is known, or None."""
    rest = Rest(block)
    waiting = [(body, 0) for body in bodies]
    while waiting != []:
        looked = waiting.pop()
        tree = looked[0]
        answered = looked[1]
        if tree[0] == "do":
            rest.done = rest.done | less(bits[tree[1]], answered)
        if tree[0] in ("call", "handle"):
            rest.uses.append((tree, answered))
        waiting.extend(inner(tree, answered, clauses))
    return rest


def inner(tree, answered, clauses):
    """The parts of an expression, each with the row of the deeds that are answered round it."""
    if tree[0] == "handle":
        return [(tree[2], answered), (tree[3], answered | clauses[tree[1]])]
    return [(part, answered) for part in parts_of(tree)]
