"""Point 28: handles eased."""

import copy
import unittest

from deedwright.checks import check
from deedwright.code import code_of
from deedwright.machine import run_code
from deedwright.moves import eased
from deedwright.reader import read
from deedwright.walk import run
from helper import KINDS, LIVELY, Maker, second_eased

HANDLERS = "(handler h (on a x s (go x s)) (on b x s x) (end x s (+ x s))) (handler k (on c y z y) (end y z (do d z)))"


class EasedCase(unittest.TestCase):
    def eases(self, text, expected, more=HANDLERS):
        """Items are eased to others, where the items of more, which stay as they are, are in the program too."""
        with self.subTest(text=text):
            program = read(text + more)
            self.assertIsNone(check(program))
            made = eased(program)
            self.assertEqual(made, read(expected + more))
            self.assertEqual(made, second_eased(program))
            self.assertIsNone(check(made))

    def body(self, text, expected, **more):
        self.eases(f"(def f (n) {text})", f"(def f (n) {expected})", **more)

    def stays(self, text, **more):
        self.body(text, text, **more)


class Eased(EasedCase):
    def test_a_b_without_deeds(self):
        self.body("(handle h 5 n)", "(let x n (let s 5 (+ x s)))")
        self.body("(handle h 0 (+ n 1))", "(let x (+ n 1) (let s 0 (+ x s)))")
        self.body("(handle k 999999999999999999 n)", "(let y n (let z 999999999999999999 (do d z)))")

    def test_a_b_with_other_deeds(self):
        self.body("(handle h 5 (do c n))", "(let x (do c n) (let s 5 (+ x s)))")
        self.body("(handle k 5 (do a (do b n)))", "(let y (do a (do b n)) (let z 5 (do d z)))")

    def test_a_b_with_a_deed_of_the_handlers_clauses(self):
        self.stays("(handle h 5 (do a n))")
        self.stays("(handle h 5 (+ (do c 1) (guard 2 (do b n))))")
        self.stays("(handle h 5 (if 0 (do a 1) 2))")

    def test_an_s_that_is_no_num(self):
        for s in ("n", "(+ 1 2)", "(do c 1)", "(let x 1 x)", "(do a 1)"):
            self.stays(f"(handle h {s} n)")

    def test_deeds_of_functions_that_are_called(self):
        more = HANDLERS + "(def g (x) (do a x)) (def i (x) (do c x))"
        self.stays("(handle h 5 (call g n))", more=more)
        self.body("(handle h 5 (call i n))", "(let x (call i n) (let s 5 (+ x s)))", more=more)

    def test_deeds_that_are_let(self):
        more = HANDLERS + "(def i (x) (do c x))"
        self.eases("(def f (n) p (handle h 5 (call p n)))", "(def f (n) p (handle h 5 (call p n)))", more)
        text = "(def f (n) p (handle h 5 (hand f p n)))"
        # What the block does may come out of f only where h answers neither.
        self.eases(text, text.replace("(handle h 5 (hand f p n))", "(let x (hand f p n) (let s 5 (+ x s)))"), more)
        text = "(def f (n) p (+ (call p n) (handle h 5 (hand f p n))))"
        self.eases(text, text, more)

    def test_a_block_whose_deeds_the_program_has_none_of(self):
        # A block lets all of the program's deeds, and these are none of the handler's.
        more = "(handler h (end x s (+ x s)))"
        self.eases("(def f (n) p (handle h 5 (call p n)))", "(def f (n) p (let x (call p n) (let s 5 (+ x s))))", more)

    def test_a_handler_without_clauses(self):
        more = "(handler h (end x s s))"
        self.body("(handle h 5 (do a n))", "(let x (do a n) (let s 5 s))", more=more)

    def test_within_one_another(self):
        self.body(
            "(handle h 1 (handle k 2 (handle h 3 n)))",
            "(let x (let y (let x n (let s 3 (+ x s))) (let z 2 (do d z))) (let s 1 (+ x s)))",
        )
        self.body("(handle h 1 (handle h 3 (do a n)))", "(let x (handle h 3 (do a n)) (let s 1 (+ x s)))")
        self.body("(handle h (handle h 3 n) (do a 1))", "(handle h (let x n (let s 3 (+ x s))) (do a 1))")

    def test_what_an_inner_handle_answers_does_not_come_out(self):
        self.body("(handle h 1 (handle h 3 (do b n)))", "(let x (handle h 3 (do b n)) (let s 1 (+ x s)))")
        # But what the inner handler's own clauses and end do comes out.
        more = "(handler h (on a x s (do a x)) (end x s x))"
        self.stays("(handle h 1 (handle h n (do a n)))", more=more)
        more = "(handler h (on a x s x) (end x s x)) (handler k (end x s (do a x)))"
        self.stays("(handle h 1 (handle k n 7))", more=more)

    def test_rows_are_those_of_the_program_handed_in(self):
        # k's clause, which is never done, has a in k's row, and so in g's, though no longer when g is eased.
        more = "(handler h (on a x s x) (end x s x)) (handler k (on c x s (do a x)) (end x s 4))"
        text = "(def f (n) (handle h 1 (call g n))) (def g (n) (handle k 2 n))"
        self.eases(text, "(def f (n) (handle h 1 (call g n))) (def g (n) (let x n (let s 2 4)))", more)

    def test_in_all_parts_of_expressions(self):
        handle, lets = "(handle h 5 n)", "(let x n (let s 5 (+ x s)))"
        forms = ("(+ %s 1)", "(- 1 %s)", "(let x %s x)", "(let x 1 %s)", "(if %s 1 2)", "(if 1 %s 2)", "(if 1 2 %s)")
        forms += ("(call f %s)", "(do a %s)", "(guard %s 1)", "(guard 1 %s)", "(handle h %s (do a 1))")
        forms += ("(handle h 1 (+ (do a 1) %s))",)
        for form in forms:
            self.body(form % handle, form % lets)

    def test_in_handlers_bodies(self):
        text = "(handler i (on a x s (go (handle h 5 x) (handle h 6 s))) (on b x s (handle h 7 (do a 1))) (end x s x))"
        expected = (
            "(handler i (on a x s (go (let x x (let s 5 (+ x s))) (let x s (let s 6 (+ x s)))))"
            "(on b x s (handle h 7 (do a 1))) (end x s x))"
        )
        self.eases(text, expected)

    def test_the_end_as_the_program_handed_in_has_it(self):
        more = "(handler h (end y z (let q (call g y) (+ q z)))) (def g (x) x)"
        self.body("(handle h 3 n)", "(let y n (let z 3 (let q (call g y) (+ q z))))", more=more)

    def test_variables_hidden(self):
        # n, the handled b's x, and what stands behind are those from outside.
        more = "(handler h (end n x (- (* 10 n) x)))"
        text = "(def f (n x) (+ (handle h 3 (+ n x)) (- n x)))"
        program = read(text + more)
        expected = read("(def f (n x) (+ (let n (+ n x) (let x 3 (- (* 10 n) x))) (- n x)))" + more)
        self.assertEqual(eased(program), expected)
        self.assertEqual(run(program, "f", [7, 2], [], 9), (("done", 87 + 5), [], 0))
        self.assertEqual(run(eased(program), "f", [7, 2], [], 9), (("done", 87 + 5), [], 0))

    def test_a_program_that_has_none(self):
        for text in ("", "(def f (n) (+ n (do a 1)))", HANDLERS):
            program = read(text)
            self.assertEqual(eased(program), program)

    def test_the_same_end_record_and_turns(self):
        text = (
            "(def f (n) (handle h 2 (+ (handle k 5 (guard 3 (do a n))) (do b (handle h 4 (call g n))))))"
            "(def g (x) (handle k 6 (do d x)))"
        )
        program = read(text + HANDLERS)
        made = eased(program)
        self.assertNotEqual(made, program)
        for turns in range(12):
            for answers in ([], [1], [1, 2], [1, 2, 3]):
                self.assertEqual(run(made, "f", [7], answers, turns), run(program, "f", [7], answers, turns))

    def test_what_is_handed_in_is_not_changed_and_it_is_the_same_again(self):
        program = read("(def f (n) (handle h 2 (handle k 5 n)))" + HANDLERS)
        kept = copy.deepcopy(program)
        first = eased(program)
        self.assertEqual(program, kept)
        eased(read("(def f (n) (handle h 2 n)) (handler h (end x s 3))"))
        self.assertEqual(eased(program), first)

    def test_sixty_deep(self):
        body = ("do", "c", ("var", "n"))
        for count in range(30):
            body = ("guard", ("num", 1), ("handle", "h", ("num", count), body))
        program = (("def", "f", ("n",), None, body),) + read(HANDLERS)
        made = eased(program)
        self.assertEqual(made, second_eased(program))
        self.assertEqual(run(made, "f", [3], [4], 50), run(program, "f", [3], [4], 50))


class Chance(unittest.TestCase):
    def test_programs_drawn_by_chance(self):
        changed = 0
        for seed in range(120):
            kinds = (KINDS, LIVELY)[seed % 2]
            maker = Maker(seed, depth=3 + seed % 3, blocks=seed % 3 > 0, kinds=kinds, answers=0.2 + 0.2 * (seed % 3))
            program = maker.handled()
            made = eased(program)
            self.assertEqual(made, second_eased(program))
            self.assertIsNone(check(made))
            changed += made != program
            for f in [item[1] for item in program if item[0] == "def" and item[3] is None]:
                numbers = [seed % 5 for param in [item for item in program if item[1] == f][0][2]]
                for answers, turns in (([], 150), ([1, 2, 3, 4, 5], 150), ([2, 0, 5], seed % 30)):
                    with self.subTest(program=program, f=f, answers=answers, turns=turns):
                        whole = run(program, f, numbers, answers, turns)
                        self.assertEqual(run(made, f, numbers, answers, turns), whole)
                        self.assertEqual(run_code(code_of(made, f), numbers, answers, turns)[:3], whole)
        self.assertGreater(changed, 50)


if __name__ == "__main__":
    unittest.main()
