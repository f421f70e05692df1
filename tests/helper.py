"""What the tests share."""

import itertools
import random
import unittest

from deedwright.checks import check
from deedwright.errors import NoText
from deedwright.reader import read

WORDS = "def handler on end let if call hand do handle go guard".split()
END = "(end x s x)"


def in_function(text):
    """The text of a program with one function, whose body a text writes."""
    return "(def f () " + text + ")"


class ReaderCase(unittest.TestCase):
    """Asks what a text is read to, or that it is refused."""

    def reads(self, text, program):
        # By their repr, which tells tuples from lists and 1 from True.
        with self.subTest(text=text[:80]):
            self.assertEqual(repr(read(text)), repr(program))

    def reads_body(self, text, body):
        self.reads(in_function(text), (("def", "f", (), None, body),))

    def refuses(self, text):
        with self.subTest(text=text[:80]):
            with self.assertRaises(ValueError) as caught:
                read(text)
            self.assertIs(type(caught.exception), NoText)

    def refuses_body(self, text):
        self.refuses(in_function(text))


class CheckCase(unittest.TestCase):
    """Asks whether a program, told by its text, is let by, or which refusal it meets."""

    def lets_by(self, text):
        with self.subTest(text=text[:200]):
            self.assertIsNone(check(read(text)))

    def refuses(self, kind, text):
        with self.subTest(text=text[:200]):
            with self.assertRaises(ValueError) as caught:
                check(read(text))
            self.assertIs(type(caught.exception), kind)


# From here to the Maker the points are written once more, apart from the program, to hold it against.


def direct_parts(tree):
    """The parts of an expression."""
    return tree[3] if tree[0] == "call" else [thing for thing in tree[1:] if isinstance(thing, tuple)]


def nested_parts(tree):
    """An expression and all its parts and theirs."""
    yield tree
    for part in direct_parts(tree):
        yield from nested_parts(part)


def bodies(item):
    """The bodies of an item."""
    return [item[4]] if item[0] == "def" else [clause[3] for clause in item[2]] + [item[3][2]]


def named(program, name):
    """The item of a name."""
    return [item for item in program if item[1] == name][0]


def clause_deeds(program, h):
    """The deeds that a handler has a clause for."""
    return {clause[0] for clause in named(program, h)[2]}


def may_be_handed(program):
    """The names of the functions that may be handed on."""
    return [item[1] for item in program if item[0] == "def" and len(item[2]) == 1 and item[3] is None]


def all_deeds(program):
    """The deeds of a program, sorted (point 9)."""
    found = {part[1] for item in program for body in bodies(item) for part in nested_parts(body) if part[0] == "do"}
    return sorted(found.union(*[clause_deeds(program, item[1]) for item in program if item[0] == "handler"]))


def subsets(deeds):
    """All sets of some of the deeds."""
    counts = range(len(deeds) + 1)
    return [set(some) for count in counts for some in itertools.combinations(deeds, count)]


def comes_out(tree, program, table, block, r):
    """The deeds that come out of an expression by a table, r being the row of the own block (point 12)."""
    outs = [comes_out(part, program, table, block, r) for part in direct_parts(tree)]
    if tree[0] == "do":
        outs.append({tree[1]})
    if tree[0] == "handle":
        outs[1] = outs[1] - clause_deeds(program, tree[1])
        outs.append(set(table[tree[1]][0]))
    if tree[0] == "call" and tree[1] == block:
        outs.append(r)
    elif tree[0] == "call":
        own, lets = table[tree[1]]
        handed = set() if tree[2] is None else r if tree[2] == block else set(table[tree[2]][0])
        outs.append(set(own) | set(lets) & handed)
    return set().union(*outs)


def table_fits(program, table):
    """Whether a table fits, for every r (point 12)."""
    every = subsets(all_deeds(program))
    for item in program:
        own, lets = map(set, table[item[1]])
        block = item[3] if item[0] == "def" else None
        for r in every if block is not None else [set()]:
            for body in bodies(item):
                if not comes_out(body, program, table, block, r) <= own | lets & r:
                    return False
    return True


def all_tables(program):
    """Every table of a program, in normal form."""
    deeds = all_deeds(program)
    rows = []
    for item in program:
        blocked = item[0] == "def" and item[3] is not None
        rows.append([(sorted(own), sorted(lets)) for own in subsets(deeds)
                     for lets in (subsets([deed for deed in deeds if deed not in own]) if blocked else [()])])
    for chosen in itertools.product(*rows):
        yield {item[1]: row for item, row in zip(program, chosen)}


def table_within(one, other):
    """Whether a table is within another one, item by item."""
    for name in one:
        (own, lets), (other_own, other_lets) = one[name], other[name]
        if not (set(own) <= set(other_own) and set(lets) <= set(other_own) | set(other_lets)):
            return False
    return True


def spots_of(program):
    """All spots of a program (point 14)."""
    spots = []
    for item in program:
        blocked = item[0] == "def" and item[3] is not None
        spots += [(item[0], item[1], g) for g in (may_be_handed(program) if blocked else [None])]
    return spots


def open_parts(program, tree, deed):
    """The parts of an expression, itself too, that are open for a deed (point 14)."""
    yield tree
    for at, part in enumerate(direct_parts(tree)):
        if not (tree[0] == "handle" and at == 1 and deed in clause_deeds(program, tree[1])):
            yield from open_parts(program, part, deed)


def leads_to(program, spot, deed):
    """The spots that a spot leads to for a deed, and whether the deed is done there (point 14)."""
    item = named(program, spot[1])
    block = item[3] if item[0] == "def" else None
    stands_for = {block: spot[2]} if block is not None else {}
    spots, done = set(), False
    for part in [part for body in bodies(item) for part in open_parts(program, body, deed)]:
        if part[0] == "handle":
            spots.add(("handler", part[1], None))
        elif part[0] == "call" and part[1] == block:
            spots.add(("def", spot[2], None))
        elif part[0] == "call":
            spots.add(("def", part[1], stands_for.get(part[2], part[2])))
        done = done or part[:2] == ("do", deed)
    return spots, done


def has_way(program, spot, deed):
    """Whether a deed has a way from a spot (point 14)."""
    seen, waiting = {spot}, [spot]
    while waiting:
        spots, done = leads_to(program, waiting.pop(), deed)
        if done:
            return True
        waiting += spots - seen
        seen |= spots
    return False


def is_way(program, spot, deed, way):
    """Whether a list of spots is a way of a deed from a spot (point 14)."""
    if type(way) is not list or not way or way[0] != spot or len(set(way)) < len(way):
        return False
    for here, there in zip(way, way[1:]):
        if there not in leads_to(program, here, deed)[0]:
            return False
    return leads_to(program, way[-1], deed)[1]


class Maker:
    """Makes programs by chance, the same ones for the same seed, that check lets by."""

    def __init__(self, seed, deeds=("a", "b", "c"), functions=3, handlers=2, depth=4, blocks=True):
        self.chance = random.Random(seed)
        self.deeds = deeds
        self.depth = depth
        self.handlers = ["h" + letter for letter in "abcdefgh"[:handlers]]
        self.functions = {}
        for letter in "abcdefgh"[:functions]:
            params = ("x", "y", "z")[: self.chance.randrange(4)]
            block = self.chance.choice((None, "p", "q")) if blocks else None
            self.functions["f" + letter] = (params, block)
        # So that there is always one to be handed on.
        self.functions["g"] = (("n",), None)

    def program(self):
        items = [self.handler(name) for name in self.handlers]
        for name, (params, block) in self.functions.items():
            items.append(("def", name, params, block, self.body(params, block, "free", self.depth)))
        self.chance.shuffle(items)
        return tuple(items)

    def handler(self, name):
        deeds = [deed for deed in self.deeds if self.chance.random() < 0.4]
        clauses = [(deed, "x", "s", self.body(("x", "s"), None, "clause", self.depth - 1)) for deed in deeds]
        return ("handler", name, tuple(clauses), ("x", "s", self.body(("x", "s"), None, "end", self.depth - 2)))

    def body(self, known, block, place, depth):
        """An expression; place is where it stands: in a clause, in an end, or, free, in neither or handled."""
        if depth <= 0 or self.chance.random() < 0.15:
            return self.leaf(known)

        def part():
            return self.body(known, block, place, depth - 1)

        kinds = ["op", "let", "if", "call", "call", "call", "do", "do", "guard"]
        kinds += ["handle", "handle"] if place != "end" and self.handlers else []
        kinds += ["go", "go"] if place == "clause" else []
        kind = self.chance.choice(kinds)
        if kind == "op":
            return ("op", self.chance.choice("+-*<"), part(), part())
        if kind == "let":
            name = self.chance.choice(("x", "v", "p"))
            return ("let", name, part(), self.body(known + (name,), block, place, depth - 1))
        if kind == "if":
            return ("if", part(), part(), part())
        if kind == "call":
            return self.call(block, part)
        if kind == "do":
            return ("do", self.chance.choice(self.deeds), part())
        if kind == "handle":
            return ("handle", self.chance.choice(self.handlers), part(), self.body(known, block, "free", depth - 1))
        return (kind, part(), part())

    def leaf(self, known):
        if known and self.chance.random() < 0.6:
            return ("var", self.chance.choice(known))
        return ("num", self.chance.choice((0, 1, 2, 7, 999999999999999999)))

    def call(self, block, part):
        own = [block] if block is not None else []
        name = self.chance.choice(own + list(self.functions))
        if name == block:
            return ("call", name, None, (part(),))
        params, takes = self.functions[name]
        handed = [name for name, (params, block) in self.functions.items() if len(params) == 1 and block is None]
        args = tuple(part() for param in params)
        return ("call", name, None if takes is None else self.chance.choice(own + handed), args)
