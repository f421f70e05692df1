"""What check lets by: points 5 and 7; bounds (8); nothing kept (1)."""

import unittest

from deedwright.checks import check
from deedwright.errors import NoName
from helper import CheckCase, Maker

H = "(handler h (on d x s 1) (end x s x))"
G = "(def g (x) x)"


def in_clause(body):
    return "(handler h (on d x s " + body + ") (end x s x)) (def g (x) x) (def k () 1) (def b (x) p (call p x))"


class Items(CheckCase):
    def test_the_program_without_items(self):
        self.assertIsNone(check(()))

    def test_without_params_args_or_clauses(self):
        for text in ("(def f () 1)", "(def f () (call f))", "(def f () p 1)", "(def f () p (hand f p))",
                     "(handler h (end x s x))", "(handler h (end x s s)) (def f () (handle h 1 2))"):
            self.lets_by(text)

    def test_items_in_any_order(self):
        items = ["(def f () (hand b g (handle h (call k) (call k))))", G, "(def b (x) p (call p (call k)))",
                 "(def k () (do d 1))", H]
        for turn in range(len(items)):
            self.lets_by(" ".join(items[turn:] + items[:turn]))
            self.lets_by(" ".join((items[turn:] + items[:turn])[::-1]))

    def test_called_handed_on_and_handled_ahead_of_where_they_stand(self):
        self.lets_by("(def f () (call k)) (def k () 1)")
        self.lets_by("(def f () (hand b g)) (def b () p (call p 1)) (def g (x) x)")
        self.lets_by("(def f () (handle h 1 2)) " + H)
        self.lets_by("(handler h (on d x s (call k)) (end x s (call k))) (def k () 1)")
        self.lets_by("(handler h (on d x s (handle i 1 2)) (end x s x)) (handler i (end x s x))")

    def test_calls_of_themselves_and_in_a_ring(self):
        self.lets_by("(def f (x) (call f x))")
        self.lets_by("(def f (x) (call g x)) (def g (x) (call f x))")
        self.lets_by("(def f (x) p (hand f p x))")
        self.lets_by("(def f (x) p (hand f g x)) (def g (x) (hand f g x))")
        self.lets_by("(handler h (on d x s (handle h 1 (do d 2))) (end x s (call f))) (def f () (handle h 1 2))")


class Names(CheckCase):
    def test_a_variable_with_the_name_of_an_item(self):
        self.lets_by("(def f (f g h) (+ f (+ g h))) " + G + H)
        self.lets_by("(def f (x) (let f 1 (+ f (call f f))))")
        self.lets_by("(def f () (let h 1 (handle h h h))) " + H)
        self.lets_by("(handler h (on d h g (+ h g)) (end g h (+ h g))) " + G)

    def test_a_deed_with_the_name_of_an_item(self):
        self.lets_by("(def f () (do f (do h 1))) (handler h (on f x s 1) (on h x s (do h 1)) (end x s x))")

    def test_a_deed_with_the_name_of_a_variable_or_a_block(self):
        self.lets_by("(def f (x) p (do x (do p x)))")
        self.lets_by("(handler h (on x x s x) (on s x s s) (end x s x))")

    def test_a_let_with_the_name_of_the_own_block(self):
        self.lets_by("(def f () p (let p 1 p))")
        self.lets_by("(def f () p (let p 1 (call p p)))")
        self.lets_by("(def f () p (let p (call p 1) (hand f p)))")

    def test_a_let_that_hides_a_variable(self):
        self.lets_by("(def f (x) (let x (+ x 1) (let x x (* x x))))")
        self.lets_by("(handler h (on d x s (let x s (let s x (+ x s)))) (end x s (let x x (let s s (+ x s)))))")

    def test_a_let_within_the_first_part_of_a_let(self):
        self.lets_by("(def f () (let x (let y 1 y) x))")
        self.lets_by("(def f (y) (let x (let y y y) (+ x y)))")

    def test_two_functions_with_params_and_blocks_of_one_name(self):
        self.lets_by("(def f (x y) p (call p x)) (def g (x y) p (call p y))")
        self.lets_by("(def f (p) p) (def g (x) p (call p x))")

    def test_two_handlers_with_clauses_for_one_deed(self):
        self.lets_by("(handler h (on d x s 1) (end x s x)) (handler i (on d x s 1) (on e x s 1) (end x s x))")


class Blocks(CheckCase):
    def test_the_own_block_called(self):
        self.lets_by("(def f (x) p (call p x))")
        self.lets_by("(def f () p (+ (call p 1) (call p (call p 2))))")
        self.lets_by("(def f (x) p (handle h (call p x) (call p x))) " + H)

    def test_the_own_block_handed_on(self):
        self.lets_by("(def f (x) p (hand f p x))")
        self.lets_by("(def f (x) p (hand b p)) (def b () q (call q 1))")

    def test_a_function_handed_on(self):
        self.lets_by("(def f () (hand b g)) (def b () p (call p 1)) " + G)
        self.lets_by("(def f (x) (hand b f x)) (def b (x) p (call p x))")
        self.lets_by("(handler h (on d x s (hand b g)) (end x s (hand b g))) (def b () p (call p 1)) " + G)

    def test_a_block_that_is_never_called(self):
        self.lets_by("(def f () p 1)")


class Goes(CheckCase):
    def test_wherever_a_go_may_stand_in_a_clause(self):
        for body in ("(go x s)", "(go (go x s) s)", "(go x (go x s))", "(go (go x (go x s)) (go (go x s) s))",
                     "(handle h (go x s) 1)", "(handle h (let y (go x s) y) (handle h 2 x))",
                     "(let y (go x s) y)", "(let y x (go y s))", "(let x 1 (let s 2 (go x s)))",
                     "(if (go x s) 1 2)", "(if x (go x s) 2)", "(if x 1 (go x s))",
                     "(guard (go x s) 1)", "(guard 1 (go x s))", "(do d (go x s))", "(do e (go x s))",
                     "(call g (go x s))", "(hand b g (go x s))", "(+ (go x s) 1)", "(- 1 (go x s))"):
            self.lets_by(in_clause(body))

    def test_a_go_beside_a_handle(self):
        self.lets_by(in_clause("(+ (handle h 1 2) (go x s))"))
        self.lets_by(in_clause("(+ (go x s) (handle h 1 2))"))
        self.lets_by(in_clause("(let y (handle h 1 (do d 2)) (go y s))"))

    def test_goes_in_several_clauses(self):
        self.lets_by("(handler h (on d x s (go x s)) (on e y t (go y t)) (on c u v (go v u)) (end x s x))")

    def test_a_call_of_what_handles_in_an_end(self):
        self.lets_by("(handler h (end x s (call f))) (def f () (handle h 1 (do d 2)))")
        self.lets_by("(handler h (end x s (hand b g))) (def b () p (handle h 1 (call p 2))) " + G)

    def test_handles_within_handles(self):
        self.lets_by("(def f () (handle h (handle h 1 2) (handle h 3 (handle h 4 5)))) " + H)
        self.lets_by(in_clause("(handle h (handle h (go x s) 1) (handle h x s))"))

    def test_what_is_known_in_what_is_handled(self):
        self.lets_by("(def f (x) p (let y 1 (handle h y (+ x (+ y (call p x)))))) " + H)


class Bounds(CheckCase):
    def test_sixty_deep(self):
        for count in (24, 60, 80):
            tree = ("var", "x")
            for turn in range(count):
                tree = ("let", "x", tree, ("op", "+", ("var", "x"), ("num", 1)))
            self.assertIsNone(check((("def", "f", ("x",), None, tree),)))
            tree = ("var", "x")
            for turn in range(count):
                tree = ("handle", "h", ("num", 1), tree)
            handler = ("handler", "h", (), ("x", "s", ("var", "x")))
            self.assertIsNone(check((("def", "f", ("x",), None, tree), handler)))
            tree = ("var", "x")
            for turn in range(count):
                tree = ("go", tree, ("var", "s"))
            self.assertIsNone(check((("handler", "h", (("d", "x", "s", tree),), ("x", "s", ("var", "x"))),)))

    def test_somewhat_beyond(self):
        letters = "abcdefghijklmnopqrstuvwxyz"
        names = ["f" + one + other for one in letters[:2] for other in letters]
        for count in (40, 41, 50):
            self.lets_by(" ".join("(def " + name + " () (call fab))" for name in names[:count]))
        for count in (8, 9, 12):
            self.lets_by("(def f (" + " ".join(letters[:count]) + ") (call f" + " 1" * count + "))")
            clauses = "".join("(on " + letter + " x s (go x s))" for letter in letters[:count])
            self.lets_by("(handler h " + clauses + " (end x s x))")
        row = ("num", 1)
        for turn in range(6):
            row = ("op", "+", row, row)
        # A row has 127 expressions.
        for count in (19, 20, 24):
            self.assertIsNone(check(tuple(("def", "f" + letter, (), None, row) for letter in letters[:count])))


class NothingKept(CheckCase):
    def test_let_by_behind_what_was_refused(self):
        for turn in range(3):
            self.lets_by("(def f (x) x)")
            self.refuses(NoName, "(def f () x)")
            self.refuses(NoName, "(def f () (call g))")
            self.lets_by("(def f () (call g)) (def g () 1)")
            self.refuses(NoName, "(def f () (call g))")
            self.lets_by("")

    def test_programs_by_chance(self):
        for seed in range(200):
            self.assertIsNone(check(Maker(seed).program()))


if __name__ == "__main__":
    unittest.main()
