"""Points 26 and 27: steady handlers, and two handlers turned."""

import copy
import unittest

from deedwright import errors
from deedwright.checks import check
from deedwright.moves import may_turn, steady, turned
from deedwright.reader import read
from deedwright.walk import run
from deedwright.writer import shown
from helper import TurnMaker, second_may_turn, second_steady, second_turned


class Steady(unittest.TestCase):
    def tells(self, expected, clauses, end="(end x s x)"):
        text = f"(handler h {clauses} {end}) (def g (x) x) (handler k (end x s x))"
        with self.subTest(text=text):
            program = read(text)
            self.assertIsNone(check(program))
            self.assertIs(steady(program, "h"), expected)
            self.assertIs(second_steady(program, "h"), expected)

    def test_jumps_that_hand_on_the_kept_number(self):
        self.tells(True, "(on a x s (go x s))")
        self.tells(True, "(on a x s (go (do b (call g x)) s)) (on c s x (go s x))")
        self.tells(True, "(on a x s (let y (+ x s) (if y (go y s) (let x 3 (go x s)))))")
        self.tells(True, "(on a x s (let y s (let z y (go z s))))")

    def test_without_clauses(self):
        self.tells(True, "")
        self.tells(True, "", "(end s x s)")
        self.tells(False, "", "(end x s s)")

    def test_a_clause_that_is_no_jump(self):
        for clause in ("x", "(+ 0 (go x s))", "(if x (go x s) x)", "(go (go x s) s)", "(guard 1 (go x s))"):
            self.tells(False, f"(on a x s {clause})")
        self.tells(False, "(on a x s (go x s)) (on b x s x)")
        self.tells(False, "(on b x s x) (on a x s (go x s))")

    def test_a_go_that_hands_on_another_kept_number(self):
        for number in ("x", "0", "(+ s 0)", "(let y s y)", "(if 1 s s)", "(guard 1 s)"):
            self.tells(False, f"(on a x s (go x {number}))")
        self.tells(False, "(on a x s (if x (go x s) (go s x)))")
        self.tells(False, "(on a x s (if x (go s x) (go x s)))")
        self.tells(False, "(on a x s (let y s (go x y)))")
        self.tells(False, "(on a x s (go x s)) (on b x s (go x x))")

    def test_a_kept_number_that_a_let_hides(self):
        self.tells(False, "(on a x s (let s 3 (go x s)))")
        self.tells(False, "(on a x s (let s s (go x s)))")
        self.tells(False, "(on a x s (let s 3 (let y 4 (go x s))))")
        self.tells(False, "(on a x s (let y 4 (let s 3 (if y (go x s) (go y s)))))")
        self.tells(False, "(on a x s (if x (go x s) (let s 3 (go x s))))")

    def test_a_let_that_hides_it_elsewhere(self):
        self.tells(True, "(on a x s (let y (let s 3 s) (go y s)))")
        self.tells(True, "(on a x s (go (let s 3 s) s))")
        self.tells(True, "(on a x s (if (let s 3 s) (go 1 s) (go 2 s)))")

    def test_the_other_variable_in_the_place_of_s(self):
        self.tells(True, "(on a s x (go s x))")
        self.tells(False, "(on a s x (go x s))")
        self.tells(True, "(on a x s (let x 3 (go x s)))")

    def test_an_end_that_is_something_else(self):
        for end in ("(end x s s)", "(end x s 0)", "(end x s (+ x 0))", "(end x s (let y x y))", "(end x s (call g x))"):
            self.tells(False, "(on a x s (go x s))", end)
        self.tells(True, "(on a x s (go x s))", "(end y z y)")
        self.tells(False, "(on a x s (go x s))", "(end y z z)")


ONE = "(handler one (on a x s (go x s)) (end x s x))"


class MayTurn(unittest.TestCase):
    def tells(self, expected, text, one="one", other="other"):
        with self.subTest(text=text):
            program = read(text)
            self.assertIsNone(check(program))
            self.assertIs(may_turn(program, one, other), expected)
            self.assertIs(second_may_turn(program, one, other), expected)

    def test_two_that_may(self):
        self.tells(True, ONE + "(handler other (on b x s (+ (go x s) (go 1 s))) (end x s (+ x s)))")
        self.tells(True, ONE + "(handler other (end x s s))")
        self.tells(True, "(handler one (end x s x))" + "(handler other (on b x s 1) (end x s x))")

    def test_the_first_is_not_steady(self):
        other = "(handler other (on b x s (go x s)) (end x s x))"
        self.tells(True, ONE + other)
        self.tells(False, "(handler one (on a x s 1) (end x s x))" + other)
        self.tells(False, "(handler one (on a x s (go x 1)) (end x s x))" + other)
        self.tells(False, "(handler one (on a x s (go x s)) (end x s s))" + other)

    def test_the_other_need_not_be_steady(self):
        text = ONE + "(handler other (on b x s 1) (end x s s))"
        self.tells(True, text)
        self.tells(False, text, "other", "one")

    def test_a_deed_with_a_clause_in_both(self):
        self.tells(False, ONE + "(handler other (on b x s x) (on a x s x) (end x s x))")

    def test_the_firsts_row_has_a_deed_of_the_other(self):
        other = "(handler other (on b x s x) (end x s x))"
        self.tells(False, "(handler one (on a x s (go (do b x) s)) (end x s x))" + other)
        self.tells(False, "(handler one (on a x s (go (call g) s)) (end x s x)) (def g () (do b 1))" + other)
        self.tells(True, "(handler one (on a x s (go (do c x) s)) (end x s x))" + other)
        handled = "(handler one (on a x s (go (handle other 1 (do b x)) s)) (end x s x))"
        self.tells(True, handled + other)

    def test_the_others_row_has_a_deed_of_the_first(self):
        self.tells(False, ONE + "(handler other (on b x s (do a x)) (end x s x))")
        self.tells(False, ONE + "(handler other (on b x s x) (end x s (do a x)))")
        self.tells(False, ONE + "(handler other (end x s (call g))) (def g () (do a 1))")
        self.tells(True, ONE + "(handler other (on b x s (do b x)) (end x s (do c x)))")

    def test_both_do_deeds_of_their_own(self):
        text = "(handler one (on a x s (go (do a x) s)) (end x s x)) (handler other (on b x s (do b x)) (end x s x))"
        self.tells(True, text)

    def test_the_same_one(self):
        self.tells(True, "(handler one (end x s x))", "one", "one")
        self.tells(False, "(handler one (end x s s))", "one", "one")
        self.tells(False, ONE, "one", "one")


TWO = ONE + "(handler other (on b x s (+ (go x (+ s 1)) (go 3 s))) (end x s (+ x (* 100 s))))"


class Turned(unittest.TestCase):
    def turns(self, text, other_text, more=TWO):
        """The text of an item is turned to another one."""
        with self.subTest(text=text):
            program = read(text + more)
            self.assertIsNone(check(program))
            self.assertEqual(turned(program, "one", "other"), read(other_text + more))
            self.assertIsNone(check(turned(program, "one", "other")))

    def body(self, text, other_text):
        self.turns(f"(def f (n) {text})", f"(def f (n) {other_text})")

    def test_at_the_top(self):
        self.body("(handle one 1 (handle other 2 (do a n)))", "(handle other 2 (handle one 1 (do a n)))")
        self.body("(handle one n (handle other 2 n))", "(handle other 2 (handle one n n))")
        self.body("(handle one 1 (handle other n n))", "(handle other n (handle one 1 n))")

    def test_what_is_not_turned(self):
        for text in (
            "(handle other 2 (handle one 1 (do a n)))",
            "(handle one 1 (+ 0 (handle other 2 (do a n))))",
            "(handle one 1 (do a n))",
            "(handle one (handle other 2 n) (do a n))",
            "(handle one 1 (let x 3 (handle other 2 x)))",
        ):
            self.body(text, text)

    def test_an_s_that_is_neither_a_num_nor_a_var(self):
        for s in ("(+ 1 2)", "(do a 1)", "(let x 1 x)", "(guard 1 2)", "(call f 1)"):
            self.body(f"(handle one {s} (handle other 2 n))", f"(handle one {s} (handle other 2 n))")
            self.body(f"(handle one 1 (handle other {s} n))", f"(handle one 1 (handle other {s} n))")

    def test_in_an_s_that_is_neither(self):
        self.body(
            "(handle one (handle one 3 (handle other 4 n)) (handle other 2 n))",
            "(handle one (handle other 4 (handle one 3 n)) (handle other 2 n))",
        )

    def test_in_all_parts_of_expressions(self):
        pair, other_pair = "(handle one 1 (handle other 2 n))", "(handle other 2 (handle one 1 n))"
        forms = ("(+ %s 1)", "(- 1 %s)", "(let x %s x)", "(let x 1 %s)", "(if %s 1 2)", "(if 1 %s 2)", "(if 1 2 %s)")
        forms += ("(call f %s)", "(do a %s)", "(guard %s 1)", "(guard 1 %s)", "(handle other %s 1)")
        forms += ("(handle other 1 %s)", "(handle one 5 (+ 1 %s))", "(handle one %s 5)")
        for form in forms:
            self.body(form % pair, form % other_pair)
        self.turns(f"(def f (n m) (call f {pair} {pair}))", f"(def f (n m) (call f {other_pair} {other_pair}))")
        text = "(def f (n) p (+ (call p %s) (hand f p %s)))"
        self.turns(text % (pair, pair), text % (other_pair, other_pair))

    def test_in_clauses(self):
        pair, other_pair = "(handle one x (handle other s 2))", "(handle other s (handle one x 2))"
        text = "(handler h (on c x s (go %s (+ s %s))) (on d x s %s) (end x s x))"
        self.turns(text % (pair, pair, pair), text % (other_pair, other_pair, other_pair))

    def test_in_the_two_handlers_own_clauses(self):
        program = read(
            "(handler one (on a x s (go (handle one 1 (handle other 2 x)) s)) (end x s x))"
            "(handler other (on b x s (handle one 1 (handle other 2 x))) (end x s x))"
        )
        expected = read(
            "(handler one (on a x s (go (handle other 2 (handle one 1 x)) s)) (end x s x))"
            "(handler other (on b x s (handle other 2 (handle one 1 x))) (end x s x))"
        )
        self.assertEqual(turned(program, "one", "other"), expected)

    def test_within_what_was_turned(self):
        self.body(
            "(handle one 1 (handle other 2 (handle one 3 (handle other 4 n))))",
            "(handle other 2 (handle one 1 (handle other 4 (handle one 3 n))))",
        )
        self.body(
            "(handle one 1 (handle other 2 (+ 1 (handle one 3 (handle other 4 n)))))",
            "(handle other 2 (handle one 1 (+ 1 (handle other 4 (handle one 3 n)))))",
        )

    def test_three_and_more_within_one_another(self):
        self.body(
            "(handle one 1 (handle one 2 (handle other 3 n)))",
            "(handle one 1 (handle other 3 (handle one 2 n)))",
        )
        # The one that was exchanged is not looked at again, though another handle of other is in it now.
        self.body(
            "(handle one 1 (handle other 2 (handle other 3 n)))",
            "(handle other 2 (handle one 1 (handle other 3 n)))",
        )
        self.body(
            "(handle one 1 (handle other 2 (handle other 3 (handle one 4 (handle other 5 n)))))",
            "(handle other 2 (handle one 1 (handle other 3 (handle other 5 (handle one 4 n)))))",
        )
        self.body(
            "(handle one 1 (handle one 2 (handle one 3 (handle other 4 (handle other 5 n)))))",
            "(handle one 1 (handle one 2 (handle other 4 (handle one 3 (handle other 5 n)))))",
        )

    def test_one_and_other_the_same(self):
        program = read("(def f () (handle h 1 (handle h 2 (handle h 3 (do a 4))))) (handler h (end x s x))")
        expected = read("(def f () (handle h 2 (handle h 1 (handle h 3 (do a 4))))) (handler h (end x s x))")
        self.assertEqual(turned(program, "h", "h"), expected)
        program = read("(def f () (handle h 1 (handle h 2 (handle h 3 (handle h 4 5))))) (handler h (end x s x))")
        expected = read("(def f () (handle h 2 (handle h 1 (handle h 4 (handle h 3 5))))) (handler h (end x s x))")
        self.assertEqual(turned(program, "h", "h"), expected)

    def test_no_handles_at_all(self):
        program = read("(def f () 1)" + TWO)
        self.assertEqual(turned(program, "one", "other"), program)

    def test_the_same_end_record_and_turns(self):
        deeds = "(+ (do a 10) (+ (do b 20) (+ (do c 30) (do a 40))))"
        program = read(f"(def f (n) (handle one 1 (handle other n (guard 5 {deeds}))))" + TWO)
        other = turned(program, "one", "other")
        self.assertNotEqual(program, other)
        for turns in range(25):
            for answers in ([], [1], [1, 2]):
                self.assertEqual(run(other, "f", [7], answers, turns), run(program, "f", [7], answers, turns))

    def test_refused(self):
        for text in (
            "(handler one (on a x s 1) (end x s x)) (handler other (end x s x))",
            ONE + "(handler other (on a x s x) (end x s x))",
            ONE + "(handler other (end x s (do a 1)))",
            ONE + "(handler other (on b x s (do a 1)) (end x s x))",
        ):
            program = read(text)
            with self.subTest(text=text):
                with self.assertRaises(ValueError) as caught:
                    turned(program, "one", "other")
                self.assertIs(type(caught.exception), errors.NoTurn)
                self.assertIsInstance(caught.exception, errors.WrightError)
        with self.assertRaises(errors.NoTurn):
            turned(read(ONE), "one", "one")
        # Whether there is a handle or not.
        with self.assertRaises(errors.NoTurn):
            turned(read("(def f () 1) (handler one (end x s s)) (handler other (end x s x))"), "one", "other")

    def test_what_is_handed_in_is_not_changed_and_it_is_the_same_again(self):
        program = read("(def f (n) (handle one 1 (handle other 2 (do a n))))" + TWO)
        kept = copy.deepcopy(program)
        first = turned(program, "one", "other")
        self.assertEqual(program, kept)
        turned(read("(def f () (handle other 1 (handle one 2 3)))" + TWO), "one", "other")
        self.assertEqual(turned(program, "one", "other"), first)

    def test_sixty_deep_and_beyond(self):
        for depth in (60, 1500):
            body = ("var", "n")
            expected = ("var", "n")
            for count in range(depth // 2):
                pair = ("handle", "other", ("num", 2), body)
                body = ("handle", "one", ("num", 1), pair)
                expected = ("handle", "other", ("num", 2), ("handle", "one", ("num", 1), expected))
            item = ("def", "f", ("n",), None, body)
            made = turned((item,) + read(TWO), "one", "other")
            self.assertEqual(shown(made[:1]), shown((item[:4] + (expected,),)))


class Chance(unittest.TestCase):
    def test_programs_drawn_by_chance(self):
        turns = changed = 0
        for seed in range(300):
            program = TurnMaker(seed, depth=3 + seed % 3).turnable()
            self.assertIsNone(check(program))
            for one, other in (("ha", "hb"), ("hb", "ha"), ("ha", "ha")):
                expected = second_may_turn(program, one, other)
                self.assertIs(may_turn(program, one, other), expected)
                self.assertIs(steady(program, one), second_steady(program, one))
                if not expected:
                    with self.assertRaises(errors.NoTurn):
                        turned(program, one, other)
                    continue
                made = turned(program, one, other)
                turns += 1
                changed += made != program
                self.assertEqual(made, second_turned(program, one, other))
                self.assertIsNone(check(made))
                for f in ("t", "m"):
                    for answers, bound in (([], 200), ([1, 2, 3, 4, 5], 200), ([2, 0, 5], seed % 30)):
                        with self.subTest(program=program, f=f, answers=answers, bound=bound):
                            self.assertEqual(run(made, f, [3], answers, bound), run(program, f, [3], answers, bound))
        self.assertGreater(turns, 200)
        self.assertGreater(changed, 150)


if __name__ == "__main__":
    unittest.main()
