"""Points 5 and 17: turns and their bound, calls of functions and of blocks, and runs that go deep."""

import unittest

from deedwright.reader import read
from helper import RunCase, in_function

ECHO = "(handler h (on a x s (go x s)) (end x s x))"


class Turns(RunCase):
    def test_nothing_but_calls_dos_and_goes_takes_one(self):
        body = "(let x (+ 1 (* 2 3)) (if (< x 3) 1 (guard 4 (handle h 0 (- x 1)))))"
        self.ends(in_function(body) + ECHO, ("done", 6), turns=0, record=[("guard", 4), ("clean", 4)], used=0)

    def test_to_begin_takes_none(self):
        self.ends("(def f (x) x)", ("done", 3), numbers=[3], turns=0, record=[], used=0)

    def test_each_call_takes_one(self):
        text = "(def f () (+ (call g) (call g))) (def g () 4)"
        self.ends(text, ("done", 8), turns=2, record=[], used=2)
        self.ends(text, ("spent",), turns=1, record=[], used=1)
        self.ends(text, ("spent",), turns=0, record=[], used=0)

    def test_each_do_takes_one(self):
        text = "(def f () (+ (do a 1) (do b 2)))"
        both = [("do", "a", 1), ("do", "b", 2)]
        self.ends(text, ("done", 9), answers=[4, 5], turns=2, record=both, used=2)
        self.ends(text, ("spent",), answers=[4, 5], turns=1, record=both[:1], used=1)
        self.ends(text, ("spent",), answers=[4, 5], turns=0, record=[], used=0)

    def test_a_do_that_has_its_turn_asks_though_it_was_the_last_one(self):
        self.ends("(def f () (do a 1))", ("asks", "a", 1), turns=1, record=[("do", "a", 1)], used=1)

    def test_each_go_takes_one(self):
        text = "(def f () (handle h 0 (do a 1)))" + ECHO
        self.ends(text, ("done", 1), turns=2, record=[("do", "a", 1)], used=2)
        self.ends(text, ("spent",), turns=1, record=[("do", "a", 1)], used=1)
        self.ends(text, ("spent",), turns=0, record=[], used=0)

    def test_the_parts_are_done_ahead_of_the_turn(self):
        # With no turn left for the call, the do or the go itself, what is done for its parts is done.
        guarded = [("guard", 1), ("clean", 1)]
        self.ends("(def f () (call g (guard 1 2))) (def g (x) x)", ("spent",), turns=0, record=guarded, used=0)
        self.ends("(def f () (do a (guard 1 2)))", ("spent",), turns=0, record=guarded, used=0)
        handler = "(handler h (on a x s (go (guard 1 2) (guard 3 4))) (end x s x))"
        text = "(def f () (handle h 0 (do a 5)))" + handler
        more = [("guard", 3), ("clean", 3)]
        self.ends(text, ("spent",), turns=1, record=[("do", "a", 5)] + guarded + more, used=1)

    def test_a_sum_that_is_too_great_goes_ahead_of_the_turn_of_what_it_is_a_part_of(self):
        great = "(* 999999999999999999 2)"
        for text in (f"(call g {great})", f"(do a {great})"):
            self.ends(in_function(text) + "(def g (x) x)", ("great",), turns=0, record=[], used=0)

    def test_turns_within_parts_come_first(self):
        text = "(def f () (call g (call h 1))) (def g (x) (do a x)) (def h (x) (do b x))"
        record = [("do", "b", 1), ("do", "a", 6)]
        self.ends(text, ("done", 7), answers=[6, 7], turns=4, record=record, used=4)
        self.ends(text, ("spent",), answers=[6, 7], turns=3, record=record[:1], used=3)
        self.ends(text, ("spent",), answers=[6, 7], turns=2, record=record[:1], used=2)
        self.ends(text, ("spent",), answers=[6, 7], turns=1, record=[], used=1)

    def test_a_run_without_end_is_spent_at_every_bound(self):
        for turns in (0, 1, 2, 99, 2000, 2500):
            self.ends("(def f () (call f))", ("spent",), turns=turns, record=[], used=turns)


class Calls(RunCase):
    def test_a_function_knows_its_params_alone(self):
        text = "(def f (x) (let y 3 (+ (call g 5) (+ x y)))) (def g (x) (let y 7 (* x y)))"
        self.ends(text, ("done", 48), numbers=[10], used=1)

    def test_functions_that_call_themselves_and_one_another(self):
        text = "(def f (n) (if n (* n (call f (- n 1))) 1))"
        self.ends(text, ("done", 3628800), numbers=[10], used=10)
        text = "(def f (n) (if n (call g (- n 1)) 1)) (def g (n) (if n (call f (- n 1)) 0))"
        for number in range(8):
            self.ends(text, ("done", 1 - number % 2), numbers=[number], used=number)
        text = "(def f (n) (if (< n 2) n (+ (call f (- n 1)) (call f (- n 2)))))"
        self.ends(text, ("done", 13), numbers=[7], used=40)

    def test_calls_with_no_and_with_eight_numbers(self):
        text = "(def f () (call g (call h) 2 3 4 5 6 7 8)) (def h () 1) (def g (a b c d e f g h) (- (* a h) (* b g)))"
        self.ends(text, ("done", -6), used=2)

    def test_the_own_block(self):
        text = "(def f () (hand g double 3)) (def double (x) (* x 2)) (def g (n) p (+ (call p n) (call p 10)))"
        self.ends(text, ("done", 26), used=3)

    def test_a_block_may_do_deeds(self):
        text = "(def f () (hand g asks 3)) (def asks (x) (do a x)) (def g (n) p (+ (call p n) (call p 10)))"
        self.ends(text, ("done", 9), answers=[4, 5], record=[("do", "a", 3), ("do", "a", 10)], used=5)

    def test_a_block_handed_further_on(self):
        text = (
            "(def f () (hand g one 3)) (def one (x) (+ x 1)) (def two (x) (* x 2))"
            "(def g (n) p (hand h p n)) (def h (n) q (+ (call q n) (hand i two (call q 100))))"
            "(def i (n) p (call p n))"
        )
        # h gets one as its q, i gets two: 4 and twice 101.
        self.ends(text, ("done", 206), used=6)

    def test_the_own_block_when_a_callee_had_another_one(self):
        text = (
            "(def f () (hand g one 3)) (def one (x) (+ x 1)) (def two (x) (* x 2))"
            "(def g (n) p (+ (call p n) (+ (hand h two n) (call p n)))) (def h (n) p (call p n))"
        )
        self.ends(text, ("done", 4 + 6 + 4), used=5)

    def test_the_own_block_in_a_function_that_calls_itself_with_others(self):
        text = (
            "(def f (n) (hand g one n)) (def one (x) (+ x 1)) (def two (x) (* x 2))"
            "(def g (n) p (if n (+ (call p n) (+ (hand g two (- n 1)) (call p 0))) 0))"
        )
        # One tells 3 + 1, two tells 2 + 0 for what is called with 1, and two once more with 0 left.
        self.ends(text, ("done", 3 + (2 + 0 + 0) + 1), numbers=[2])

    def test_the_own_block_in_what_is_handled(self):
        text = (
            "(def f () (hand g asks 3)) (def asks (x) (do a x))"
            "(def g (n) p (+ (handle h 5 (+ (call p n) (call p 10))) (call p 1)))"
            "(handler h (on a x s (go (* x s) (+ s 1))) (end x s (+ x (* 1000 s))))"
        )
        record = [("do", "a", 3), ("do", "a", 10), ("do", "a", 1)]
        self.ends(text, ("done", 15 + 60 + 7000 + 2), answers=[2], record=record)

    def test_a_block_and_a_callers_variables_behind_a_going_on(self):
        text = (
            "(def f () (handle h 0 (let k 7 (+ (hand g one 3) k)))) (def one (x) (+ x (do a x)))"
            "(def g (n) p (let m 4 (+ (call p n) (* (call p m) n))))"
            "(handler h (on a x s (+ (go x s) (go 0 s))) (end x s x))"
        )
        # one tells 6 or 3 for 3, 8 or 4 for 4; each of the four ways adds 7.
        ways = [first + second * 3 + 7 for first in (6, 3) for second in (8, 4)]
        self.ends(text, ("done", sum(ways)))


class Deep(RunCase):
    def test_calls_close_to_the_bound(self):
        text = "(def f (n) (if n (+ 1 (call f (- n 1))) 0))"
        for depth in (300, 900, 1999, 2000):
            self.ends(text, ("done", depth), numbers=[depth], record=[], used=depth)
        self.ends(text, ("spent",), numbers=[2001], record=[], used=2000)

    def test_calls_one_another(self):
        text = "(def f (n) (if n (- (call g (- n 1)) 1) 0)) (def g (n) (if n (+ 3 (call f (- n 1))) 0))"
        self.ends(text, ("done", 2000), numbers=[2000], used=2000)

    def test_sixty_expressions_within_one_another_at_each_depth(self):
        body = ("call", "f", None, (("op", "-", ("var", "n"), ("num", 1)),))
        for number in range(56):
            body = ("op", "+", ("num", number), body)
        program = (("def", "f", ("n",), None, ("if", ("var", "n"), body, ("num", 0))),)
        self.assertEqual(self.ran(program, [2000]), (("done", 2000 * sum(range(56))), [], 2000))

    def test_under_a_handler_and_a_guard_at_each_depth(self):
        text = (
            "(def f (n) (if n (handle h n (guard n (call f (- n 1)))) (do b 7)))"
            "(handler h (on a x s (go x s)) (end x s (+ x s)))"
        )
        depth = 1998
        guards = [("guard", number) for number in range(depth, 0, -1)]
        cleans = [("clean", number) for number in range(1, depth + 1)]
        record = guards + [("do", "b", 7)] + cleans
        self.ends(text, ("done", 5 + sum(range(depth + 1))), [depth], [5], record=record, used=depth + 1)
        self.ends(text, ("asks", "b", 7), [depth], record=record[: depth + 1], used=depth + 1)

    def test_all_that_is_deep_held_and_put_back_often(self):
        text = (
            "(def f (n) (handle o 0 (call g n)))"
            "(def g (n) (if n (handle h n (guard n (+ 1 (call g (- n 1))))) (+ (do b 7) (do b 8))))"
            "(handler h (end x s x)) (handler o (on b x s (+ (go x (+ s 1)) (go 0 s))) (end x s x))"
        )
        depth = 900
        program = read(text)
        end, record, used = self.ran(program, [depth])
        # Both dos go on twice, so there are four ways out, each with all guards cleaned.
        self.assertEqual((end, used), (("done", 4 * depth + 15 + 7 + 8 + 0), depth + 1 + 3 + 6))
        self.assertEqual(len([row for row in record if row[0] == "clean"]), 4 * depth)

    def test_all_that_is_deep_thrown_away(self):
        text = (
            "(def f (n) (handle o 0 (call g n)))"
            "(def g (n) (if n (handle h n (guard n (+ 1 (call g (- n 1))))) (do b 7)))"
            "(handler h (end x s x)) (handler o (on b x s (+ x 1)) (end x s x))"
        )
        depth = 1998
        cleans = [("clean", number) for number in range(1, depth + 1)]
        end, record, used = self.ran(read(text), [depth])
        self.assertEqual((end, used), (("done", 8), 2000))
        self.assertEqual(record[depth + 1 :], cleans)

    def test_clauses_that_hold_clauses_that_hold_clauses(self):
        # Each clause does the deed once more under a handler of its own, so that each holds one guard
        # alone; the last one's number comes out through all of them.
        text = (
            "(def f (n) (handle h n (guard n (do a n))))"
            "(handler h (on a x s (if x (call f (- x 1)) 5)) (end x s x))"
        )
        depth = 999
        record = []
        for number in range(depth, -1, -1):
            record += [("guard", number), ("do", "a", number)]
        record += [("clean", number) for number in range(depth + 1)]
        self.assertEqual(self.ran(read(text), [depth]), (("done", 5), record, 2 * depth + 1))

    def test_a_chain_of_clauses_held_by_one_another(self):
        # Each b is done in the clause that holds the ones ahead, and is held by the next handler's
        # clause; the outermost clause throws all of that away at once.
        text = (
            "(def f (n) (handle o 0 (call g n)))"
            "(def g (n) (handle h n (guard n (do a n))))"
            "(handler h (on a x s (guard (+ x 5000) (if x (call g (- x 1)) (do z 0)))) (end x s x))"
            "(handler o (on z x s 77) (end x s x))"
        )
        depth = 900
        end, record, used = self.ran(read(text), [depth])
        self.assertEqual((end, used), (("done", 77), 2 * depth + 3))
        expected = []
        for number in range(depth + 1):
            expected += [("clean", number + 5000), ("clean", number)]
        self.assertEqual([row for row in record if row[0] == "clean"], expected)

    def test_goes_within_goes_close_to_the_bound(self):
        text = (
            "(def f (n) (handle h 0 (call g n)))"
            "(def g (n) (if n (+ (do a n) (call g (- n 1))) 0))"
            "(handler h (on a x s (+ 1 (go x (+ s 1)))) (end x s (+ x s)))"
        )
        depth = 666
        record = [("do", "a", number) for number in range(depth, 0, -1)]
        told = sum(range(depth + 1)) + depth + depth
        self.assertEqual(self.ran(read(text), [depth]), (("done", told), record, 1 + 3 * depth))


if __name__ == "__main__":
    unittest.main()
