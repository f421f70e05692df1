"""Point 20, the interface of Stage 4, and point 1: halts, refusals, and lists of the asker's own."""

import copy
import unittest

from deedwright import errors
from deedwright.reader import read
from deedwright.walk import Halt, begun, gone_on, run

ASKS = read("(def f (n) (guard 1 (let y 10 (+ (do a n) (+ (do b y) (do c 3))))))")
# Each answer of c is asked for twice, once in each going-on.
TWICE = read(
    "(def f () (handle h 5 (guard 1 (+ (do a 7) (do c 2)))))"
    "(handler h (on a x s (+ (go 1 s) (go (do b s) s))) (end x s x))"
)


def of(halt):
    """What a Halt tells."""
    return halt.end, halt.record, halt.used


class GoneOn(unittest.TestCase):
    def test_a_halt_that_asks(self):
        halt = begun(ASKS, "f", [4], 50)
        self.assertIsInstance(halt, Halt)
        self.assertEqual(of(halt), (("asks", "a", 4), [("guard", 1), ("do", "a", 4)], 1))

    def test_the_kinds_of_the_fields(self):
        halt = begun(ASKS, "f", [4], 50)
        self.assertEqual([type(value) for value in of(halt)], [tuple, list, int])
        self.assertEqual([type(row) for row in halt.record], [tuple, tuple])
        self.assertEqual([type(value) for value in run(ASKS, "f", [4], [], 50)], [tuple, list, int])
        self.assertIs(type(run(ASKS, "f", [4], [], 50)), tuple)

    def test_the_do_is_not_put_into_the_record_again(self):
        halt = gone_on(begun(ASKS, "f", [4], 50), 100)
        self.assertEqual(of(halt), (("asks", "b", 10), [("guard", 1), ("do", "a", 4), ("do", "b", 10)], 2))

    def test_any_number_often_and_the_same_again(self):
        halt = begun(ASKS, "f", [4], 50)
        whole = [("guard", 1), ("do", "a", 4), ("do", "b", 10), ("do", "c", 3), ("clean", 1)]
        for one in (0, 5, -5, 10**17, 5, 0):
            for two in (1, -1, 1):
                last = gone_on(gone_on(gone_on(halt, one), two), 1000)
                self.assertEqual(of(last), (("done", one + two + 1000), whole, 3))
        self.assertEqual(of(halt), (("asks", "a", 4), whole[:2], 1))

    def test_goings_on_in_turn_change_none_of_the_others(self):
        first = begun(ASKS, "f", [4], 50)
        left, right = gone_on(first, 1), gone_on(first, 2)
        lefts = [gone_on(left, 10), gone_on(left, 20)]
        rights = [gone_on(right, 10), gone_on(right, 20)]
        self.assertEqual([gone_on(halt, 100).end[1] for halt in rights + lefts], [112, 122, 111, 121])
        self.assertEqual(of(left), of(right))

    def test_with_clauses_that_go_on_twice(self):
        first = begun(TWICE, "f", [], 50)
        self.assertEqual(first.end, ("asks", "c", 2))
        for one in (10, 20):
            second = gone_on(first, one)
            self.assertEqual(second.end, ("asks", "b", 5))
            for two in (300, 400):
                third = gone_on(second, two)
                self.assertEqual(third.end, ("asks", "c", 2))
                for three in (5000, 6000):
                    record = [("guard", 1), ("do", "a", 7), ("do", "c", 2), ("clean", 1), ("do", "b", 5)]
                    record += [("do", "c", 2), ("clean", 1)]
                    last = gone_on(third, three)
                    self.assertEqual(of(last), (("done", 1 + one + two + three), record, 6))
        self.assertEqual(first.end, ("asks", "c", 2))

    def test_a_go_done_behind_the_halt_counts_in_its_own_run_alone(self):
        program = read(
            "(def f () (handle h 0 (guard 1 (do a 2)))) (handler h (on a x s (if (do b 3) (go 4 s) 5)) (end x s x))"
        )
        halt = begun(program, "f", [], 50)
        record = [("guard", 1), ("do", "a", 2), ("do", "b", 3), ("clean", 1)]
        for answer, told, used in ((1, 4, 3), (0, 5, 2), (1, 4, 3), (0, 5, 2)):
            self.assertEqual(of(gone_on(halt, answer)), (("done", told), record, used))

    def test_the_same_bound_and_the_turns_taken_so_far(self):
        for bound, end in ((3, ("done", 9)), (2, ("spent",))):
            halt = gone_on(gone_on(begun(ASKS, "f", [4], bound), 2), 3)
            if bound == 3:
                halt = gone_on(halt, 4)
            self.assertEqual((halt.end, halt.used), (end, bound))
        halt = begun(ASKS, "f", [4], 1)
        self.assertEqual(halt.end, ("asks", "a", 4))
        for answer in (1, 2):
            self.assertEqual(of(gone_on(halt, answer)), (("spent",), [("guard", 1), ("do", "a", 4)], 1))

    def test_what_is_done_to_a_halt_changes_no_run(self):
        expected = of(gone_on(begun(ASKS, "f", [4], 50), 6))
        halt = begun(ASKS, "f", [4], 50)
        halt.record.append(("do", "z", 1))
        self.assertEqual(of(gone_on(halt, 6)), expected)
        halt.record.clear()
        self.assertEqual(of(gone_on(halt, 6)), expected)
        halt.record = None
        halt.used = 49
        halt.end = ("done", 3)
        self.assertEqual(of(gone_on(halt, 6)), expected)

    def test_what_is_done_to_a_later_halt_changes_no_run(self):
        halt = begun(ASKS, "f", [4], 50)
        later = gone_on(halt, 6)
        expected = of(gone_on(later, 7))
        gone_on(halt, 6).record.clear()
        later.record.clear()
        self.assertEqual(of(gone_on(later, 7)), expected)
        self.assertEqual(of(gone_on(gone_on(halt, 6), 7)), expected)

    def test_halts_of_several_runs_at_once(self):
        other = read("(def f (n) (* (do a n) 2))")
        one, two = begun(ASKS, "f", [4], 50), begun(other, "f", [5], 50)
        self.assertEqual(of(gone_on(two, 21)), (("done", 42), [("do", "a", 5)], 1))
        self.assertEqual(gone_on(one, 21).end, ("asks", "b", 10))
        self.assertEqual(of(gone_on(two, 4)), (("done", 8), [("do", "a", 5)], 1))


class NoHold(unittest.TestCase):
    def refuses(self, halt):
        for answer in (0, 1, 1):
            with self.assertRaises(ValueError) as caught:
                gone_on(halt, answer)
            self.assertIs(type(caught.exception), errors.NoHold)
            self.assertIsInstance(caught.exception, errors.WrightError)

    def test_other_ends(self):
        self.refuses(begun(read("(def f () 3)"), "f", [], 5))
        self.refuses(begun(read("(def f () (call f))"), "f", [], 5))
        self.refuses(begun(read("(def f () (* 999999999999999999 2))"), "f", [], 5))
        self.refuses(gone_on(begun(read("(def f () (do a 1))"), "f", [], 5), 4))
        self.refuses(begun(read("(def f () (do a 1))"), "f", [], 0))

    def test_though_the_end_is_changed(self):
        halt = begun(read("(def f () 3)"), "f", [], 5)
        halt.end = ("asks", "a", 1)
        self.refuses(halt)

    def test_a_refusal_changes_nothing(self):
        halt = begun(read("(def f () (do a 1))"), "f", [], 5)
        last = gone_on(halt, 4)
        self.refuses(last)
        self.assertEqual(of(last), (("done", 4), [("do", "a", 1)], 1))
        self.assertEqual(of(gone_on(halt, 5)), (("done", 5), [("do", "a", 1)], 1))


class Refusals(unittest.TestCase):
    program = read("(def f (x y) x) (def g (x) p (call p x)) (def i () 1) (handler h (end x s x))")

    def refuses(self, kind, f, numbers):
        for begin in (begun, lambda program, f, numbers, turns: run(program, f, numbers, [1], turns)):
            with self.subTest(f=f, numbers=numbers):
                with self.assertRaises(ValueError) as caught:
                    begin(self.program, f, numbers, 5)
                self.assertIs(type(caught.exception), kind)
                self.assertIsInstance(caught.exception, errors.WrightError)

    def test_names(self):
        for f in ("z", "h", "g", "p", "x"):
            for numbers in ([], [1], [1, 2], [1, 2, 3]):
                self.refuses(errors.NoName, f, numbers)

    def test_counts(self):
        for numbers in ([], [1], [1, 2, 3]):
            self.refuses(errors.NoCount, "f", numbers)
        self.refuses(errors.NoCount, "i", [1])

    def test_a_program_without_items(self):
        for numbers in ([], [1]):
            with self.assertRaises(errors.NoName):
                begun((), "f", numbers, 5)

    def test_with_no_turn_to_take(self):
        with self.assertRaises(errors.NoCount):
            begun(self.program, "f", [1], 0)

    def test_what_is_not_refused(self):
        self.assertEqual(of(begun(self.program, "f", [1, 2], 0)), (("done", 1), [], 0))
        self.assertEqual(of(begun(self.program, "i", [], 0)), (("done", 1), [], 0))


class Own(unittest.TestCase):
    def test_what_is_handed_in_is_not_changed(self):
        program, numbers, answers = copy.deepcopy(ASKS), [4], [5, 6, 7, 8]
        run(program, "f", numbers, answers, 50)
        begun(program, "f", numbers, 50)
        self.assertEqual((program, numbers, answers), (ASKS, [4], [5, 6, 7, 8]))

    def test_what_is_done_later_to_what_was_handed_in_changes_nothing(self):
        numbers = [4]
        halt = begun(read("(def f (n) (+ (do a 1) n))"), "f", numbers, 50)
        numbers[0] = 1000
        numbers.append(3)
        self.assertEqual(gone_on(halt, 6).end, ("done", 10))

    def test_what_was_given_is_the_askers_own(self):
        expected = run(ASKS, "f", [4], [5], 50)
        first = run(ASKS, "f", [4], [5], 50)
        first[1].clear()
        self.assertEqual(run(ASKS, "f", [4], [5], 50), expected)
        halt = begun(ASKS, "f", [4], 50)
        halt.record.clear()
        self.assertEqual(begun(ASKS, "f", [4], 50).record, [("guard", 1), ("do", "a", 4)])

    def test_the_same_again_behind_another_program(self):
        expected = run(ASKS, "f", [4], [5], 50)
        run(TWICE, "f", [], [1, 2, 3], 50)
        self.assertEqual(run(ASKS, "f", [4], [5], 50), expected)
        # Items of the same names that are others.
        run(read("(def f (n) (do a (+ n 1)))"), "f", [4], [5], 50)
        self.assertEqual(run(ASKS, "f", [4], [5], 50), expected)


if __name__ == "__main__":
    unittest.main()
