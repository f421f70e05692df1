"""Which refusal check tells where more than one thing is wrong: point 7."""

import random
import unittest

from deedwright.checks import check
from deedwright.errors import NoCount, NoGo, NoName, WrightError
from deedwright.trees import FORMS
from helper import CheckCase, Maker, direct_parts

G = "(def g (x) x)"
H = "(handler h (on d x s 1) (end x s x))"

# One expression that is wrong of each kind, in a program with g, and with no variable q.
NAME, COUNT, GO = "q", "(call g)", "(go 1 2)"
KINDS = ((NoName, NAME), (NoCount, COUNT), (NoGo, GO))


class FirstOfTwo(CheckCase):
    def test_the_names_of_items_ahead_of_all_else(self):
        for kind, wrong in KINDS[1:]:
            self.refuses(NoName, "(def f () " + wrong + ")" + G + "(def k () 1) (def k () 1)")
            self.refuses(NoName, "(def f () " + wrong + ")" + G + "(def f () 1)")
            self.refuses(NoName, "(handler h (on d x s (handle h 1 " + wrong + ")) (end x s x))" + G + H)
            self.refuses(kind, "(def f () " + wrong + ")" + G + "(def k (x x) 1)")
            self.refuses(kind, "(def f () " + wrong + ")" + G + "(handler i (on d x x 1) (on d x s 1) (end x x x))")

    def test_item_by_item(self):
        items = ("(def {0} () {1})", "(handler {0} (on d x s (handle h 1 {1})) (end x s x))",
                 "(handler {0} (end x s {1}))")
        for one in items:
            for other in items:
                for kind, wrong in KINDS:
                    for last, behind in KINDS:
                        texts = [one.format("i", wrong), other.format("k", behind)]
                        self.refuses(kind, "".join(texts) + G + H)
                        self.refuses(last, "".join(texts[::-1]) + G + H)
                        self.refuses(kind, G + texts[0] + H + texts[1])

    def test_params_and_block_ahead_of_the_body(self):
        for kind, wrong in KINDS[1:]:
            for head in ("(x x)", "(x x) p", "(x) x", "(x) g", "(x) f", "() h"):
                self.refuses(NoName, "(def f " + head + " " + wrong + ")" + G + H)

    def test_the_deeds_of_a_handler_ahead_of_its_clauses(self):
        for wrong in (COUNT, "(handle h 1 (go 1 2))"):
            self.refuses(NoName, "(handler i (on d x s " + wrong + ") (on d x s 1) (end x s x))" + G + H)
            self.refuses(NoName, "(handler i (on e x s " + wrong + ") (on d x s 1) (on d x s 1) (end x s x))" + G + H)
        self.refuses(NoName, "(handler i (on d x s 1) (on d x s 1) (end x s (go 1 2)))")

    def test_x_and_s_ahead_of_the_body(self):
        for wrong in (COUNT, "(handle h 1 (go 1 2))"):
            self.refuses(NoName, "(handler i (on d x x " + wrong + ") (end x s x))" + G + H)
        for wrong in (COUNT, GO, "(handle h 1 2)"):
            self.refuses(NoName, "(handler i (end x x " + wrong + "))" + G + H)

    def test_x_and_s_of_a_clause_behind_the_clause_ahead(self):
        for kind, wrong in ((NoCount, COUNT), (NoGo, "(handle h 1 (go 1 2))")):
            self.refuses(kind, "(handler i (on d x s " + wrong + ") (on e x x 1) (end x s x))" + G + H)
            self.refuses(kind, "(handler i (on d x s " + wrong + ") (end x x 1))" + G + H)
            self.refuses(kind, "(handler i (on d x s 1) (on e x s " + wrong + ") (on c s s 1) (end s s 1))" + G + H)

    def test_the_clauses_in_their_order_and_the_end_last(self):
        clause_kinds = ((NoName, NAME), (NoCount, COUNT), (NoGo, "(handle h 1 (go 1 2))"))
        handler = "(handler i (on d x s {0}) (on e x s {1}) (end x s {2}))" + G + H
        for kind, wrong in clause_kinds:
            for other, behind in clause_kinds:
                self.refuses(kind, handler.format(wrong, behind, "x"))
                self.refuses(kind, handler.format("x", wrong, behind if other != NoGo else GO))
                self.refuses(kind, handler.format(wrong, "x", behind if other != NoGo else GO))
                self.refuses(other, handler.format("1", behind, "(handle h 1 2)"))

    def test_an_expression_ahead_of_its_parts(self):
        self.refuses(NoCount, "(def f () (call g q q))" + G)
        self.refuses(NoCount, "(def f () (call b (go 1 2))) (def b (x) p x)")
        self.refuses(NoName, "(def f () (call q (call g)))" + G)
        self.refuses(NoName, "(def f () (hand b q (call g))) (def b (x) p x)" + G)
        self.refuses(NoName, "(def f () (handle g (call g) (go 1 2)))" + G)
        self.refuses(NoGo, "(def f () (go q (call g)))" + G)
        self.refuses(NoGo, "(handler i (end x s (handle h q (call g))))" + G + H)
        self.refuses(NoGo, "(handler i (on d x s (handle h 1 (go q q))) (end x s x))" + H)

    def test_the_parts_from_left_to_right(self):
        forms = ("(+ {0} {1})", "(let v {0} {1})", "(if {0} {1} 1)", "(if {0} 1 {1})", "(if 1 {0} {1})",
                 "(call two {0} {1})", "(hand b g {0} {1})", "(guard {0} {1})", "(handle h {0} {1})",
                 "(+ (* 1 {0}) {1})", "(+ {0} (* {1} 1))", "(+ (* 1 (- 2 {0})) (do d {1}))")
        behind = "(def two (x y) x) (def b (x y) p x)" + G + H
        for form in forms:
            for kind, wrong in KINDS:
                for last, other in KINDS:
                    self.refuses(kind, "(def f () " + form.format(wrong, other) + ")" + behind)
        for form in ("(go {0} {1})", "(go (go 1 {0}) {1})", "(go {0} (go {1} 1))"):
            for kind, wrong in KINDS[:2]:
                for last, other in KINDS[:2]:
                    self.refuses(kind, "(handler i (on d x s " + form.format(wrong, other) + ") (end x s x))" + behind)

    def test_of_one_expression_the_name_first(self):
        for body in ("(call q)", "(hand q g)", "(call h 1 2)", "(hand g q 1)", "(hand g h)", "(hand k two)",
                     "(hand two two)", "(hand q q q)", "(hand b q)", "(hand p q)", "(hand p two 1 2)"):
            self.refuses(NoName, "(def f () p " + body + ") (def k () 1) (def two (x y) x) (def b (x) p x)" + G + H)
        for body in ("(handle q 1 2)", "(handle g 1 2)"):
            self.refuses(NoName, "(handler i (end x s " + body + "))" + G + H)
        self.refuses(NoGo, "(handler i (end x s (handle h 1 2)))" + G + H)


def wrongs_of_expression(tree, known, block, place, items):
    """The refusals that an expression meets, in their order, as point 7 tells them."""
    def items_named(name, kind):
        return [item for item in items if item[0] == kind and item[1] == name]

    kind = tree[0]
    if kind == "var" and tree[1] not in known:
        yield NoName
    if kind == "call":
        takes = [(1, None)] if tree[1] == block else [(len(f[2]), f[3]) for f in items_named(tree[1], "def")]
        if not takes:
            yield NoName
        if tree[2] is not None and tree[2] != block:
            if not [g for g in items_named(tree[2], "def") if len(g[2]) == 1 and g[3] is None]:
                yield NoName
        if takes and (len(tree[3]) != takes[0][0] or (tree[2] is None) != (takes[0][1] is None)):
            yield NoCount
    if kind == "handle":
        if not items_named(tree[1], "handler"):
            yield NoName
        if place == "end":
            yield NoGo
    if kind == "go" and place != "clause":
        yield NoGo
    for at, part in enumerate(direct_parts(tree)):
        more = (tree[1],) if kind == "let" and at == 1 else ()
        inside = "handled" if kind == "handle" and at == 1 and place == "clause" else place
        yield from wrongs_of_expression(part, known + more, block, inside, items)


def wrongs(program):
    """The refusals that a program meets, in their order."""
    names = [item[1] for item in program]
    for at, name in enumerate(names):
        if name in names[:at]:
            yield NoName
    for item in program:
        if item[0] == "def":
            told = list(item[2]) + ([item[3]] if item[3] is not None else [])
            if len(set(told)) < len(told) or item[3] in names:
                yield NoName
            yield from wrongs_of_expression(item[4], item[2], item[3], "function", program)
        else:
            if len({clause[0] for clause in item[2]}) < len(item[2]):
                yield NoName
            answers = [clause[1:] + ("clause",) for clause in item[2]] + [item[3] + ("end",)]
            for x, s, body, place in answers:
                if x == s:
                    yield NoName
                yield from wrongs_of_expression(body, (x, s), None, place, program)


class Spoiler:
    """Puts something else into some places of a program, so that the program keeps its form."""

    def __init__(self, seed, often):
        self.chance = random.Random(seed)
        self.often = often

    def name(self, name):
        if self.chance.random() < self.often:
            return self.chance.choice(("x", "s", "y", "p", "q", "n", "g", "fa", "fb", "ha", "a"))
        return name

    def expression(self, tree):
        if self.chance.random() < self.often / 2:
            return ("go", tree, ("num", 1))
        if self.chance.random() < self.often / 2:
            return ("handle", self.name("ha"), ("num", 1), tree)
        return (tree[0],) + tuple(self.thing(kind, thing) for kind, thing in zip(FORMS[tree[0]], tree[1:]))

    def thing(self, kind, thing):
        if kind == "part":
            return self.expression(thing)
        if kind == "parts":
            args = tuple(self.expression(part) for part in thing)
            return args[1:] if self.chance.random() < self.often else args
        if kind == "block":
            return None if self.chance.random() < self.often else thing and self.name(thing)
        return self.name(thing) if kind == "name" else thing

    def item(self, item):
        if item[0] == "def":
            params = tuple(self.name(param) for param in item[2])
            return ("def", self.name(item[1]), params, item[3] and self.name(item[3]), self.expression(item[4]))
        clauses = tuple(self.answer(clause) for clause in item[2])
        return ("handler", self.name(item[1]), clauses, self.answer(item[3]))

    def answer(self, answer):
        return tuple(self.name(name) for name in answer[:-1]) + (self.expression(answer[-1]),)


class HeldAgainstAnotherWriting(unittest.TestCase):
    def test_programs_spoilt_by_chance(self):
        met = {None: 0, NoName: 0, NoCount: 0, NoGo: 0}
        for seed in range(3000):
            program = Maker(seed, depth=3).program()
            spoilt = tuple(map(Spoiler(seed, 0.01).item, program))
            first = next(wrongs(spoilt), None)
            met[first] += 1
            try:
                told = check(spoilt)
            except WrightError as refusal:
                told = type(refusal)
            self.assertIs(told, first, spoilt)
        # Each of them is met often enough to tell something.
        self.assertTrue(all(count > 100 for count in met.values()), met)


if __name__ == "__main__":
    unittest.main()
