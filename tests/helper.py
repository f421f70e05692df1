"""What the tests share."""

import random
import unittest

from deedwright.checks import check
from deedwright.errors import NoText
from deedwright.reader import read

WORDS = "def handler on end let if call hand do handle go guard".split()
END = "(end x s x)"


def in_function(text):
    """The text of a program with one function, whose body a text writes."""
    return "(def f () " + text + ")"


class ReaderCase(unittest.TestCase):
    """Asks what a text is read to, or that it is refused."""

    def reads(self, text, program):
        # By their repr, which tells tuples from lists and 1 from True.
        with self.subTest(text=text[:80]):
            self.assertEqual(repr(read(text)), repr(program))

    def reads_body(self, text, body):
        self.reads(in_function(text), (("def", "f", (), None, body),))

    def refuses(self, text):
        with self.subTest(text=text[:80]):
            with self.assertRaises(ValueError) as caught:
                read(text)
            self.assertIs(type(caught.exception), NoText)

    def refuses_body(self, text):
        self.refuses(in_function(text))


class CheckCase(unittest.TestCase):
    """Asks whether a program, told by its text, is let by, or which refusal it meets."""

    def lets_by(self, text):
        with self.subTest(text=text[:200]):
            self.assertIsNone(check(read(text)))

    def refuses(self, kind, text):
        with self.subTest(text=text[:200]):
            with self.assertRaises(ValueError) as caught:
                check(read(text))
            self.assertIs(type(caught.exception), kind)


def nested_parts(tree):
    """An expression and all its parts, by what a part is in each form, written apart from the program."""
    yield tree
    if tree[0] == "call":
        inside = tree[3]
    else:
        inside = [thing for thing in tree[1:] if isinstance(thing, tuple)]
    for part in inside:
        yield from nested_parts(part)


class Maker:
    """Makes programs by chance, the same ones for the same seed, that check lets by."""

    def __init__(self, seed, deeds=("a", "b", "c"), functions=3, handlers=2, depth=4, blocks=True):
        self.chance = random.Random(seed)
        self.deeds = deeds
        self.depth = depth
        self.handlers = ["h" + letter for letter in "abcdefgh"[:handlers]]
        self.functions = {}
        for letter in "abcdefgh"[:functions]:
            params = ("x", "y", "z")[: self.chance.randrange(4)]
            block = self.chance.choice((None, "p", "q")) if blocks else None
            self.functions["f" + letter] = (params, block)
        # So that there is always one to be handed on.
        self.functions["g"] = (("n",), None)

    def program(self):
        items = [self.handler(name) for name in self.handlers]
        for name, (params, block) in self.functions.items():
            items.append(("def", name, params, block, self.body(params, block, "free", self.depth)))
        self.chance.shuffle(items)
        return tuple(items)

    def handler(self, name):
        deeds = [deed for deed in self.deeds if self.chance.random() < 0.4]
        clauses = [(deed, "x", "s", self.body(("x", "s"), None, "clause", self.depth - 1)) for deed in deeds]
        return ("handler", name, tuple(clauses), ("x", "s", self.body(("x", "s"), None, "end", self.depth - 2)))

    def body(self, known, block, place, depth):
        """An expression; place is where it stands: in a clause, in an end, or, free, in neither or handled."""
        if depth <= 0 or self.chance.random() < 0.15:
            return self.leaf(known)

        def part():
            return self.body(known, block, place, depth - 1)

        kinds = ["op", "let", "if", "call", "call", "call", "do", "do", "guard"]
        kinds += ["handle", "handle"] if place != "end" and self.handlers else []
        kinds += ["go", "go"] if place == "clause" else []
        kind = self.chance.choice(kinds)
        if kind == "op":
            return ("op", self.chance.choice("+-*<"), part(), part())
        if kind == "let":
            name = self.chance.choice(("x", "v", "p"))
            return ("let", name, part(), self.body(known + (name,), block, place, depth - 1))
        if kind == "if":
            return ("if", part(), part(), part())
        if kind == "call":
            return self.call(block, part)
        if kind == "do":
            return ("do", self.chance.choice(self.deeds), part())
        if kind == "handle":
            return ("handle", self.chance.choice(self.handlers), part(), self.body(known, block, "free", depth - 1))
        return (kind, part(), part())

    def leaf(self, known):
        if known and self.chance.random() < 0.6:
            return ("var", self.chance.choice(known))
        return ("num", self.chance.choice((0, 1, 2, 7, 999999999999999999)))

    def call(self, block, part):
        own = [block] if block is not None else []
        name = self.chance.choice(own + list(self.functions))
        if name == block:
            return ("call", name, None, (part(),))
        params, takes = self.functions[name]
        handed = None if takes is None else self.chance.choice(own + self.may_be_handed())
        return ("call", name, handed, tuple(part() for param in params))

    def may_be_handed(self):
        return [name for name, (params, block) in self.functions.items() if len(params) == 1 and block is None]
