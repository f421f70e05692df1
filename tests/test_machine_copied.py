"""Point 24: how many frames are copied, reckoned by hand."""

import unittest

from deedwright.code import code_of
from deedwright.machine import run_code
from deedwright.reader import read
from helper import LIVELY, Maker, all_clauses, second_kind, second_run_code

TWO = "(def f () (handle o 0 (handle i 0 %s)))"


class CopiedCase(unittest.TestCase):
    def copies(self, text, number, copied, taken=None, numbers=(), answers=()):
        """A run of the code of f is done with a number, and copies so many frames."""
        with self.subTest(text=text, taken=taken):
            program = read(text)
            code = code_of(program, "f", taken)
            told = run_code(code, list(numbers), list(answers), 2000)
            self.assertEqual((told[0], told[3]), (("done", number), copied))
            self.assertEqual(second_run_code(code, numbers, answers, 2000), told)


class NoCopies(CopiedCase):
    def test_without_handlers(self):
        self.copies("(def f () (call g 3)) (def g (n) (if n (call g (- n 1)) 5))", 5, 0)

    def test_clauses_that_never_go_on_jump_or_go_on_once(self):
        for clause, number in (("x", 7), ("(go x s)", 8), ("(+ 1 (go x s))", 9), ("(if x (+ 2 (go x s)) 3)", 10)):
            text = f"(def f () (handle h 0 (+ 1 (do a 7)))) (handler h (on a x s {clause}) (end x s x))"
            self.copies(text, number, 0)
            self.copies(text, number, 0, taken=[("h", "a")])

    def test_a_go_that_is_not_last_which_is_not_done(self):
        clause = "(on a x s (if s (+ (go 1 s) (go 2 s)) (go 3 s)))"
        self.copies(f"(def f () (handle h 0 (do a 7))) (handler h {clause} (end x s x))", 3, 0)

    def test_a_program_without_many(self):
        # The clauses that hold one another are all put back as they are.
        text = TWO % "(+ (do a 1) (do b 2))" + (
            "(handler i (on a x s (+ (do b 1) (go x s))) (end x s x))"
            "(handler o (on b x s (+ 10 (go x s))) (end x s x))"
        )
        self.copies(text, 1 + 1 + 2 + 20, 0)


class OneHandler(CopiedCase):
    def test_a_go_that_is_not_last_copies_all_that_is_held(self):
        # The handler's frame and that of what is handled.
        text = "(def f () (handle h 0 (do a 7))) (handler h (on a x s %s) (end x s x))"
        self.copies(text % "(+ (go 1 s) (go 2 s))", 3, 2)
        self.copies(text % "(+ (go 1 s) (+ (go 2 s) (go 3 s)))", 6, 4)
        self.copies(text % "(go (go 1 s) s)", 1, 2)
        self.copies(text % "(let y (go 1 s) (if 0 (go 2 s) y))", 1, 2)
        self.copies(text % "(if (go 1 s) (go 2 s) (go 3 s))", 2, 2)

    def test_the_frames_of_callers(self):
        text = (
            "(def f () (handle h 0 (call g 3))) (def g (n) (if n (+ 1 (call g (- n 1))) (do a 7)))"
            "(handler h (on a x s (+ (go 1 s) (go 2 s))) (end x s x))"
        )
        # The handler's, that of what is handled, and four of g.
        self.copies(text, 4 + 5, 6)

    def test_handlers_frames_among_them(self):
        text = (
            "(def f () (handle h 0 (handle k 0 (handle k 0 (do a 7))))) (handler k (end x s x))"
            "(handler h (on a x s (+ (go 1 s) (go 2 s))) (end x s x))"
        )
        # Three handlers, and what each of them handles.
        self.copies(text, 3, 6)

    def test_frames_outside_of_the_handler_are_not_copied(self):
        text = (
            "(def f () (call g 3)) (def g (n) (if n (call g (- n 1)) (handle k 0 (handle h 0 (do a 7)))))"
            "(handler k (end x s x)) (handler h (on a x s (+ (go 1 s) (go 2 s))) (end x s x))"
        )
        self.copies(text, 3, 2)

    def test_a_deed_done_twice(self):
        # Each of three clauses copies two frames at its first go and none at its last one.
        text = "(def f () (handle h 0 (+ (do a 1) (do a 2)))) (handler h (on a x s (+ (go 1 s) (go 2 s))) (end x s x))"
        self.copies(text, 2 + 3 + 3 + 4, 6)

    def test_the_clauses_own_frame_is_not_held(self):
        # What the clause calls is done with when it goes on.
        text = (
            "(def f () (handle h 0 (do a 7))) (def g (x) (+ x 1))"
            "(handler h (on a x s (+ (go (call g 1) s) (call g (go (call g 2) s)))) (end x s x))"
        )
        self.copies(text, 2 + 4, 2)


class WithinOneAnother(CopiedCase):
    def test_a_clauses_frame_that_was_copied_copies_at_its_last_go_too(self):
        text = TWO % "(do a 1)" + (
            "(handler i (on a x s (+ 100 (go (do b x) s))) (end x s x))"
            "(handler o (on b x s (+ (go 1 s) (go 2 s))) (end x s x))"
        )
        # o's first go copies o, what it handles, and i's clause; that copy's go copies i and what it
        # handles, and so does the go of i's clause itself, that was copied.
        self.copies(text, 101 + 102, 3 + 2 + 2)

    def test_what_a_copied_clauses_frame_holds_is_not_copied(self):
        text = TWO % "(do a 1)" + (
            "(handler i (on a x s (do b x)) (end x s x)) (handler o (on b x s (+ (go 1 s) (go 2 s))) (end x s x))"
        )
        self.copies(text, 3, 3)

    def test_a_jumps_clause_is_copied_with_all_beneath_it(self):
        text = TWO % "(do a 1)" + (
            "(handler i (on a x s (go (do b x) s)) (end x s x))"
            "(handler o (on b x s (+ (go 1 s) (go 2 s))) (end x s x))"
        )
        # o, what it handles, i, what that handles, and the clause; the jumps copy nothing.
        self.copies(text, 3, 5)
        self.copies(text, 3, 3 + 2 + 2, taken=[("i", "a")])

    def test_a_clause_that_went_on_ahead_of_being_copied(self):
        text = TWO % "(do a 1)" + (
            "(handler i (on a x s (+ (go 10 s) (go (do b x) s))) (end x s x))"
            "(handler o (on b x s (+ (go 1 s) (go 2 s))) (end x s x))"
        )
        # i's first go, o's first go, and the last goes of i's clause and of its copy.
        self.copies(text, 11 + 12, 2 + 3 + 2 + 2)

    def test_a_clause_whose_last_go_was_done_ahead_of_being_copied(self):
        text = TWO % "(+ (do a 1) (do b 2))" + (
            "(handler i (on a x s (+ 100 (go x s))) (end x s x))"
            "(handler o (on b x s (+ (go 10 s) (go 20 s))) (end x s x))"
        )
        # o, what it handles, i's clause, and, put back by it, i and what that handles.
        self.copies(text, 111 + 121, 5)

    def test_three_goes_of_the_outer_clause(self):
        text = TWO % "(do a 1)" + (
            "(handler i (on a x s (+ 100 (go (do b x) s))) (end x s x))"
            "(handler o (on b x s (+ (go 1 s) (+ (go 2 s) (go 3 s)))) (end x s x))"
        )
        self.copies(text, 306, 3 + 2 + 3 + 2 + 2)

    def test_a_copy_of_a_copy(self):
        text = (
            "(def f () (handle p 0 (handle o 0 (handle i 0 (do a 1)))))"
            "(handler i (on a x s (+ 100 (go (do b x) s))) (end x s x))"
            "(handler o (on b x s (+ 1000 (go (do c x) s))) (end x s x))"
            "(handler p (on c x s (+ (go 1 s) (go 2 s))) (end x s x))"
        )
        # i's clause holds i and its b; o's clause holds o, its b and i's clause; p's holds p, its b and
        # o's clause. p's first go copies 3; the copy of o's clause copies 3 at its go, i's clause among
        # them, whose go copies 2; and then o's clause itself likewise.
        self.copies(text, 1101 + 1102, 3 + (3 + 2) + (3 + 2))

    def test_what_is_held_by_both_goes_on_in_both_as_it_was(self):
        text = TWO % "(let y (do a 1) (+ y (* 10 (do a 2))))" + (
            "(handler i (on a x s (+ 0 (go (do b x) (+ s 1)))) (end x s (+ x (* 100 s))))"
            "(handler o (on b x s (+ (go (+ x 3) s) (go (+ x 5) s))) (end x s x))"
        )
        ways = [first + 10 * second + 200 for first in (4, 6) for second in (5, 7)]
        # The first do: o copies 3, then each of i's clauses copies 2. The second do, in both goings-on:
        # i's clause, that went on, is among what o holds, and i's other clause.
        first = 3 + 2 + 2
        second = 2 * (4 + 2 + 2)
        self.copies(text, sum(ways), first + second)

    def test_deep(self):
        text = (
            "(def f (n) (handle h 0 (call g n))) (handler k (end x s x))"
            "(def g (n) (if n (handle k 0 (call g (- n 1))) (+ (do a 1) (do a 2))))"
            "(handler h (on a x s (+ (go 1 s) (go 2 s))) (end x s x))"
        )
        # The handler, what it handles, and for each depth g, k and what that handles, and the last g.
        self.copies(text, 12, 3 * (2 + 3 * 600 + 1), numbers=[600])


class Chance(unittest.TestCase):
    def test_a_program_without_clauses_that_go_on_often_copies_none(self):
        # A clause that would go on often is made to tell x.
        runs = 0
        for seed in range(150):
            maker = Maker(seed, depth=3 + seed % 3, kinds=LIVELY, answers=0.8, goes=2)
            program = []
            for item in maker.handled():
                if item[0] == "handler":
                    clauses = [clause if second_kind(clause[3]) != "many" else clause[:3] + (("var", "x"),)
                               for clause in item[2]]
                    item = item[:2] + (tuple(clauses), item[3])
                program.append(item)
            program = tuple(program)
            for taken in (None, all_clauses(program)):
                told = run_code(code_of(program, "m", taken), [3], [1, 2], 200)
                self.assertEqual(told[3], 0)
                runs += len(told[1]) > 3
        self.assertGreater(runs, 80)


if __name__ == "__main__":
    unittest.main()
