"""What check refuses, one thing wrong at a time: point 7."""

import unittest

from deedwright.checks import check
from deedwright.errors import Lacking, NoCount, NoGo, NoHold, NoName, NoRow, NoText, NoTurn, WrightError
from deedwright.reader import read
from helper import CheckCase

H = "(handler h (on d x s 1) (end x s x))"
G = "(def g (x) x)"
KNOWN = G + H + "(def k () 1) (def two (x y) x) (def b (x) p (call p x))"

# Each place for an expression: what stands ahead of it and behind it.
AROUND = (
    ("", ""), ("(+ ", " 1)"), ("(+ 1 ", ")"), ("(let v ", " 1)"), ("(let v 1 ", ")"), ("(if ", " 1 2)"),
    ("(if 1 ", " 2)"), ("(if 1 2 ", ")"), ("(do d ", ")"), ("(call g ", ")"), ("(call two 1 ", ")"),
    ("(hand b g ", ")"), ("(guard ", " 1)"), ("(guard 1 ", ")"), ("(- (* 1 (+ 2 ", ")) 3)"),
)
HANDLED = (("(handle h ", " 1)"), ("(handle h 1 ", ")"), ("(let v 1 (handle h 1 (+ 1 ", ")))"))
GOING = (("(go ", " s)"), ("(go x ", ")"), ("(go (go x s) (go x ", "))"))


def places(body):
    """The programs that have a body at some place of a function, a clause and an end."""
    for ahead, behind in AROUND + HANDLED:
        yield "(def f () " + ahead + body + behind + ")" + KNOWN
    for ahead, behind in AROUND + HANDLED + GOING:
        yield "(handler i (on e x s " + ahead + body + behind + ") (end x s x))" + KNOWN
    for ahead, behind in AROUND:
        yield "(handler i (end x s " + ahead + body + behind + "))" + KNOWN


class TheNamesOfItems(CheckCase):
    def test_two_of_one_name(self):
        for text in ("(def f () 1) (def f () 1)", "(def f () 1) (def f (x) 2)", H + H, "(def h () 1)" + H,
                     H + "(def h () 1)", "(def f () 1)" + H + "(def f () 2)", G + "(def f () 1)" + H + G):
            self.refuses(NoName, text)

    def test_params_and_block_told_twice(self):
        for text in ("(def f (x x) 1)", "(def f (x y x) 1)", "(def f (y x x) 1)", "(def f (x x) p 1)",
                     "(def f (a b c d e g i a) 1)", "(def f (x) x 1)", "(def f (x y) x 1)", "(def f (x y) y 1)"):
            self.refuses(NoName, text)

    def test_a_block_with_the_name_of_an_item(self):
        for text in ("(def f () f 1)", "(def f () g 1)" + G, G + "(def f () g 1)", "(def f () h 1)" + H,
                     H + "(def f () h 1)", "(def f () z 1)" + G + H + "(def z () q 1)"):
            self.refuses(NoName, text)

    def test_a_deed_of_two_clauses(self):
        self.refuses(NoName, "(handler h (on d x s 1) (on d x s 1) (end x s x))")
        self.refuses(NoName, "(handler h (on d x s 1) (on e x s 1) (on d y t 2) (end x s x))")
        self.refuses(NoName, "(handler h (on e x s 1) (on d x s 1) (on d y t 2) (end x s x))")

    def test_x_and_s_the_same(self):
        self.refuses(NoName, "(handler h (on d x x 1) (end x s x))")
        self.refuses(NoName, "(handler h (on d x s 1) (on e s s 1) (end x s x))")
        self.refuses(NoName, "(handler h (end x x 1))")
        self.refuses(NoName, "(handler h (on d x s 1) (end s s 1))")


class Variables(CheckCase):
    def test_unknown_at_any_place(self):
        for text in places("q"):
            self.refuses(NoName, text)

    def test_known_at_any_place(self):
        # So that it is the one thing that is wrong which the others are refused for.
        for text in places("1"):
            self.lets_by(text)

    def test_no_variable_but_the_name_of_something_else(self):
        for name in ("f", "g", "h", "d", "k"):
            self.refuses(NoName, "(def f () " + name + ")" + KNOWN)
        self.refuses(NoName, "(def f () p p)")
        self.refuses(NoName, "(def f () p (call p p))")

    def test_of_a_let(self):
        for text in ("(def f () (let x x 1))", "(def f () (let x (+ 1 x) 1))", "(def f () (+ (let x 1 x) x))",
                     "(def f () (let y (let x 1 x) x))", "(def f () (if (let x 1 x) x 1))",
                     "(def f () (+ (let x 1 (let y 2 x)) y))", "(def f (a b) (call f (let x 1 x) x))",
                     "(handler h (on d x s (+ (let y 1 y) y)) (end x s x))", "(handler h (end x s (let y y 1)))",
                     "(handler h (on d x s (let y 1 y)) (end x s y))"):
            self.refuses(NoName, text)

    def test_of_another_item(self):
        for text in ("(def f (x) x) (def g () x)", "(def f () x) (def g (x) x)", H + "(def f () x)",
                     "(def f () s)" + H, "(def f () (let y 1 (call g))) (def g () y)"):
            self.refuses(NoName, text)

    def test_of_another_clause(self):
        self.refuses(NoName, "(handler h (on d x s 1) (on e y t x) (end x s x))")
        self.refuses(NoName, "(handler h (on d x s t) (on e y t y) (end x s x))")
        self.refuses(NoName, "(handler h (on d x s 1) (end y t x))")
        self.refuses(NoName, "(handler h (on d x s y) (end y t y))")

    def test_of_the_function_that_the_handle_stands_in(self):
        handler = "(handler i (on d x s (+ x {0})) (end x s {1}))"
        self.lets_by("(def f (n) (let m 1 (handle i n (do d m))))" + handler.format("s", "s"))
        for name in ("n", "m"):
            self.refuses(NoName, "(def f (n) (let m 1 (handle i n (do d m))))" + handler.format(name, "s"))
            self.refuses(NoName, "(def f (n) (let m 1 (handle i n (do d m))))" + handler.format("s", name))


class Calls(CheckCase):
    def test_of_what_is_no_function(self):
        for name in ("q", "h", "p", "x", "d"):
            for text in places("(call " + name + " 1)"):
                self.refuses(NoName, text)
        for text in ("(def f (x) (call x 1))", "(def f () (let x 1 (call x 1)))", "(def f () (call q))",
                     "(def f () (call h))" + H, "(def f () (call p 1)) (def g () p (call p 1))",
                     "(def f () q (call p 1)) (def g () p 1)", "(def f (x) q (call x 1))"):
            self.refuses(NoName, text)

    def test_a_block_that_may_not_be_handed_on(self):
        for name in ("q", "h", "k", "two", "b", "p", "x", "d"):
            for text in places("(hand b " + name + " 1)"):
                self.refuses(NoName, text)
        for text in ("(def f (x) p (hand f x x))", "(def f (x) p (hand f f x))", "(def f (x) p (hand f q x))"):
            self.refuses(NoName, text)

    def test_an_arg_too_few_or_too_many(self):
        for name, count in (("k", 0), ("g", 1), ("two", 2)):
            for other in range(5):
                for text in places("(call " + name + " 1" * other + ")"):
                    if other == count:
                        self.lets_by(text)
                    else:
                        self.refuses(NoCount, text)
        for other in (0, 2, 3):
            for text in places("(hand b g" + " 1" * other + ")"):
                self.refuses(NoCount, text)

    def test_a_block_too_many_or_none(self):
        for body in ("(hand k g)", "(hand g g 1)", "(hand two g 1 2)", "(call b 1)"):
            for text in places(body):
                self.refuses(NoCount, text)
        self.refuses(NoCount, "(def f (x) p (call f x))")
        self.refuses(NoCount, "(def f (x) p (hand g p x))" + G)

    def test_the_own_block(self):
        for body in ("(call p)", "(call p 1 2)", "(call p 1 2 3)", "(hand p p 1)", "(hand p g 1)", "(hand p g)",
                     "(hand p p)", "(hand p p 1 2)"):
            for ahead, behind in AROUND + HANDLED:
                self.refuses(NoCount, "(def f (x) p " + ahead + body + behind + ")" + KNOWN)

    def test_no_block_in_clauses_and_ends(self):
        self.refuses(NoName, "(def f (x) p (handle i 1 (call p x))) (handler i (on d x s (call p x)) (end x s x))")
        self.refuses(NoName, "(def f (x) p (handle i 1 (call p x))) (handler i (end x s (call p x)))")
        self.refuses(NoName, "(def f (x) p (handle i 1 1)) (handler i (on d x s (hand f p x)) (end x s x))")
        self.refuses(NoName, "(def f (x) p (handle i 1 1)) (handler i (end x s (hand f p x)))")


class Handles(CheckCase):
    def test_of_what_is_no_handler(self):
        for name in ("q", "g", "k", "b", "p", "x", "d"):
            for text in places("(handle " + name + " 1 2)"):
                self.refuses(NoName, text)
        self.refuses(NoName, "(def f () p (handle p 1 2))")
        self.refuses(NoName, "(def f (x) (handle x 1 2))")
        self.refuses(NoName, "(def f () (handle f 1 2))")

    def test_in_an_end(self):
        for ahead, behind in AROUND:
            self.refuses(NoGo, "(handler i (end x s " + ahead + "(handle h x s)" + behind + "))" + KNOWN)
            self.refuses(NoGo, "(handler h (on d x s 1) (end x s " + ahead + "(handle h x s)" + behind + "))"
                         + KNOWN.replace(H, ""))


class Goes(CheckCase):
    def test_in_a_function(self):
        for ahead, behind in AROUND + HANDLED:
            self.refuses(NoGo, "(def f (x s) p " + ahead + "(go x s)" + behind + ")" + KNOWN)

    def test_in_an_end(self):
        for ahead, behind in AROUND:
            self.refuses(NoGo, "(handler i (on d x s (go x s)) (end x s " + ahead + "(go x s)" + behind + "))" + KNOWN)

    def test_in_what_is_handled_in_a_clause(self):
        for ahead, behind in AROUND + HANDLED:
            handle = "(handle h 1 " + ahead + "(go x s)" + behind + ")"
            for first, last in AROUND + HANDLED + GOING:
                self.refuses(NoGo, "(handler i (on e x s " + first + handle + last + ") (end x s x))" + KNOWN)

    def test_in_the_s_of_a_handle_that_is_handled(self):
        self.refuses(NoGo, "(handler i (on e x s (handle h 1 (handle h (go x s) 1))) (end x s x))" + H)
        self.lets_by("(handler i (on e x s (handle h (handle h (go x s) 1) 1)) (end x s x))" + H)


class Refusals(unittest.TestCase):
    WRONG = (
        (NoName, "(def f () x)"),
        (NoCount, "(def f () (call f 1))"),
        (NoGo, "(def f () (go 1 2))"),
    )

    def test_each_is_what_it_is_called_and_no_other(self):
        others = (Lacking, NoCount, NoGo, NoHold, NoName, NoRow, NoText, NoTurn)
        for kind, text in self.WRONG:
            try:
                check(read(text))
                self.fail("let by: " + text)
            except WrightError as refusal:
                self.assertIsInstance(refusal, ValueError)
                self.assertEqual([other for other in others if isinstance(refusal, other)], [kind])

    def test_refused_again(self):
        for turn in range(3):
            for kind, text in self.WRONG:
                program = read(text)
                for again in range(2):
                    self.assertRaises(kind, check, program)
                self.assertEqual(program, read(text))

    def test_sixty_deep(self):
        for kind, tree in ((NoName, ("var", "x")), (NoCount, ("call", "f", None, (("num", 1),))),
                           (NoGo, ("go", ("num", 1), ("num", 2)))):
            for turn in range(60):
                tree = ("guard", ("num", 1), tree)
            self.assertRaises(kind, check, (("def", "f", (), None, tree),))


if __name__ == "__main__":
    unittest.main()
