"""What shown writes: point 6; the bounds of its depth: point 8; nothing kept: point 1."""

import unittest

from deedwright.checks import check
from deedwright.errors import WrightError
from deedwright.reader import read
from deedwright.writer import shown
from helper import Maker

A, B, C = ("var", "a"), ("num", 2), ("var", "c")
AB = ("op", "*", A, B)

EXPRESSIONS = (
    ("5", ("num", 5)),
    ("x", ("var", "x")),
    ("(+ a 2)", ("op", "+", A, B)),
    ("(- a 2)", ("op", "-", A, B)),
    ("(* a 2)", ("op", "*", A, B)),
    ("(< a 2)", ("op", "<", A, B)),
    ("(- 2 a)", ("op", "-", B, A)),
    ("(let x a 2)", ("let", "x", A, B)),
    ("(if a 2 c)", ("if", A, B, C)),
    ("(call f)", ("call", "f", None, ())),
    ("(call f a)", ("call", "f", None, (A,))),
    ("(call f a 2 c)", ("call", "f", None, (A, B, C))),
    ("(hand f g)", ("call", "f", "g", ())),
    ("(hand f g a)", ("call", "f", "g", (A,))),
    ("(hand f g a 2 c)", ("call", "f", "g", (A, B, C))),
    ("(do d a)", ("do", "d", A)),
    ("(handle h a 2)", ("handle", "h", A, B)),
    ("(go a 2)", ("go", A, B)),
    ("(guard a 2)", ("guard", A, B)),
)
ITEMS = (
    ("(def f () 2)", ("def", "f", (), None, B)),
    ("(def f (x) 2)", ("def", "f", ("x",), None, B)),
    ("(def f (x y) a)", ("def", "f", ("x", "y"), None, A)),
    ("(def f (z y x w) (* a 2))", ("def", "f", ("z", "y", "x", "w"), None, AB)),
    ("(def f () p 2)", ("def", "f", (), "p", B)),
    ("(def f (x) p a)", ("def", "f", ("x",), "p", A)),
    ("(def f (x y) p (* a 2))", ("def", "f", ("x", "y"), "p", AB)),
    ("(handler h (end x s x))", ("handler", "h", (), ("x", "s", ("var", "x")))),
    ("(handler h (end v k (* a 2)))", ("handler", "h", (), ("v", "k", AB))),
    ("(handler h (on d x s 2) (end x s a))", ("handler", "h", (("d", "x", "s", B),), ("x", "s", A))),
    ("(handler h (on e x s (* a 2)) (on d y t a) (on c u v 2) (end y t 2))",
     ("handler", "h", (("e", "x", "s", AB), ("d", "y", "t", A), ("c", "u", "v", B)), ("y", "t", B))),
)


def put_for_a(inner, tree):
    """A tree with another one in the place of each part that is the variable a."""
    if tree == A:
        return inner
    return tuple(put_for_a(inner, thing) for thing in tree) if isinstance(tree, tuple) else tree


def refused(program):
    try:
        check(program)
    except WrightError:
        return True
    return False


class WriterCase(unittest.TestCase):
    def writes(self, program, text):
        with self.subTest(text=text[:80]):
            self.assertEqual(shown(program), text)
            self.assertIs(type(shown(program)), str)

    def writes_body(self, body, text):
        self.writes((("def", "f", (), None, body),), "(def f () " + text + ")")


class TheVeryText(WriterCase):
    def test_each_form(self):
        for text, tree in EXPRESSIONS:
            self.writes_body(tree, text)

    def test_each_form_within_each_form(self):
        for inner_text, inner in EXPRESSIONS:
            for outer_text, outer in EXPRESSIONS[2:]:
                self.writes_body(put_for_a(inner, outer), outer_text.replace(" a", " " + inner_text))

    def test_each_form_in_clauses_and_ends(self):
        for text, tree in EXPRESSIONS:
            self.writes((("handler", "h", (("d", "x", "s", tree),), ("x", "s", tree)),),
                        "(handler h (on d x s " + text + ") (end x s " + text + "))")

    def test_each_item(self):
        for text, item in ITEMS:
            self.writes((item,), text)

    def test_items_are_parted_by_a_line_end(self):
        for count in range(2, len(ITEMS) + 1):
            self.writes(tuple(item for text, item in ITEMS[:count]), "\n".join(text for text, item in ITEMS[:count]))
        self.writes(tuple(item for text, item in ITEMS[::-1]), "\n".join(text for text, item in ITEMS[::-1]))

    def test_the_program_without_items(self):
        self.writes((), "")

    def test_numbers(self):
        for number in (0, 1, 9, 10, 100, 123456789012345678, 100000000000000000, 999999999999999999):
            self.writes_body(("num", number), str(number))
            self.writes_body(("op", "-", ("num", number), ("num", 0)), "(- " + str(number) + " 0)")

    def test_names(self):
        function = "(def {0} ({0} {0}) {0} (hand {0} {0} {0}))"
        handler = "(handler {0} (on {0} {0} {0} (do {0} {0})) (end {0} {0} (handle {0} {0} (let {0} 1 2))))"
        for name in ("a", "z", "ab", "abcdefgh", "zzzzzzzz", "defs"):
            var = ("var", name)
            handled = ("handle", name, var, ("let", name, ("num", 1), ("num", 2)))
            self.writes((("def", name, (name, name), name, ("call", name, name, (var,))),), function.format(name))
            self.writes((("handler", name, ((name, name, name, ("do", name, var)),), (name, name, handled)),),
                        handler.format(name))

    def test_no_blank_more(self):
        for seed in range(40):
            text = shown(Maker(seed).program())
            for wrong in ("  ", "( ", " )", "\n\n", " \n", "\n ", "\t", ")("):
                self.assertNotIn(wrong, text)
            self.assertEqual(text, text.strip())

    def test_a_row_for_each_item(self):
        for seed in range(40):
            program = Maker(seed).program()
            rows = shown(program).split("\n")
            self.assertEqual([shown((item,)) for item in program], rows)


class ReadAgain(WriterCase):
    def reads_again(self, program):
        text = shown(program)
        again = read(text)
        # By their repr, which tells tuples from lists.
        self.assertEqual(repr(again), repr(program))
        self.assertEqual(shown(again), text)

    def test_each_form(self):
        self.reads_again(())
        for text, tree in EXPRESSIONS:
            self.reads_again((("def", "f", (), None, tree),))
        for text, item in ITEMS:
            self.reads_again((item,))
        self.reads_again(tuple(item for text, item in ITEMS))

    def test_programs_by_chance(self):
        for seed in range(150):
            self.reads_again(Maker(seed, depth=6).program())

    def test_a_text_written_otherwise(self):
        text = " (def f(x y)\n p(+ 1(call p\n\nx)) )(handler  h(on d x s(go x s))(end x s x))\n"
        self.writes(read(text), "(def f (x y) p (+ 1 (call p x)))\n(handler h (on d x s (go x s)) (end x s x))")

    def test_programs_that_check_refuses(self):
        texts = ("(def f () x)", "(def f () (call g))", "(def f () (hand f g))", "(def f () (handle h 1 2))",
                 "(def f () (go 1 2))", "(def f () 1)\n(def f () 2)", "(def f (x x) x 1)",
                 "(handler h (on d x x 1) (on d x s 2) (end s s (go 1 2)))",
                 "(handler h (end x s (handle h 1 2)))\n(handler h (end x s q))")
        for text in texts:
            self.assertTrue(refused(read(text)))
            self.writes(read(text), text)
            self.reads_again(read(text))


class Bounds(WriterCase):
    # Each way to nest an expression: what stands ahead of the inner one and behind it, in tree and text.
    WAYS = (
        (("op", "+"), (B,), "(+ ", " 2)"),
        (("op", "+", B), (), "(+ 2 ", ")"),
        (("let", "x"), (B,), "(let x ", " 2)"),
        (("let", "x", B), (), "(let x 2 ", ")"),
        (("if",), (B, C), "(if ", " 2 c)"),
        (("if", B), (C,), "(if 2 ", " c)"),
        (("if", B, C), (), "(if 2 c ", ")"),
        (("do", "d"), (), "(do d ", ")"),
        (("handle", "h"), (B,), "(handle h ", " 2)"),
        (("handle", "h", B), (), "(handle h 2 ", ")"),
        (("go",), (B,), "(go ", " 2)"),
        (("go", B), (), "(go 2 ", ")"),
        (("guard",), (B,), "(guard ", " 2)"),
        (("guard", B), (), "(guard 2 ", ")"),
    )

    def test_sixty_deep(self):
        for head, tail, ahead, behind in self.WAYS:
            for count in (24, 25, 59, 60, 61, 80):
                tree = A
                for turn in range(count):
                    tree = head + (tree,) + tail
                self.writes_body(tree, ahead * count + "a" + behind * count)

    def test_sixty_deep_in_args(self):
        for handed, ahead in ((None, "(call f 2 "), ("g", "(hand f g 2 ")):
            tree = A
            for turn in range(60):
                tree = ("call", "f", handed, (B, tree, C))
            self.writes_body(tree, ahead * 60 + "a" + " c)" * 60)

    def test_many(self):
        self.writes(tuple(("def", "f", (), None, B) for k in range(45)), "\n".join(["(def f () 2)"] * 45))
        self.writes_body(("call", "f", None, (B,) * 2600), "(call f" + " 2" * 2600 + ")")
        self.writes((("def", "f", ("x",) * 9, None, B),), "(def f (" + " ".join("x" * 9) + ") 2)")
        self.writes((("handler", "h", (("d", "x", "s", B),) * 9, ("x", "s", A)),),
                    "(handler h" + " (on d x s 2)" * 9 + " (end x s a))")


class NothingKept(WriterCase):
    def test_the_same_again_behind_another(self):
        for turn in range(3):
            for text, item in ITEMS:
                self.writes((item,), text)
            self.writes((), "")


if __name__ == "__main__":
    unittest.main()
