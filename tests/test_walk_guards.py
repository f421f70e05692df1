"""Point 19: guards, and what is thrown away."""

import unittest

from helper import RunCase


def rows(text):
    """A record, told as texts: "guard 1, do a 2, clean 1"."""
    found = []
    for row in text.split(", "):
        words = row.split(" ")
        found.append(tuple(words[:-1]) + (int(words[-1]),))
    return found


# Within one another: the clause of i holds guard 4, that of o all from guard 3 on.
TWO = "(def f () (guard 2 (handle o 0 (guard 3 (handle i 0 (guard 4 %s))))))"


class GuardCase(RunCase):
    def records(self, text, number, record, **more):
        self.ends(text, ("done", number), record=rows(record), **more)


class Guards(GuardCase):
    def test_a_guard_round_a_number(self):
        self.records("(def f () (guard 5 7))", 7, "guard 5, clean 5", used=0)
        self.records("(def f () (guard (- 0 5) 7))", 7, "guard -5, clean -5", used=0)

    def test_its_number_first_then_the_guard_then_b(self):
        text = "(def f () (guard (do a 1) (do b 2)))"
        self.records(text, 9, "do a 1, guard 8, do b 2, clean 8", answers=[8, 9], used=2)

    def test_within_one_another_and_beside_one_another(self):
        record = "guard 1, guard 2, guard 3, clean 3, clean 2, clean 1"
        self.records("(def f () (guard 1 (guard 2 (guard 3 4))))", 4, record)
        self.records("(def f () (+ (guard 1 2) (guard 3 4)))", 6, "guard 1, clean 1, guard 3, clean 3")
        record = "guard 1, clean 1, guard 2, guard 3, clean 3, clean 2"
        self.records("(def f () (guard (guard 1 2) (guard 3 4)))", 4, record)

    def test_it_is_cleaned_when_b_has_told_and_what_is_behind_comes_then(self):
        text = "(def f () (+ (guard 1 (do a 2)) (do b 3)))"
        self.records(text, 9, "guard 1, do a 2, clean 1, do b 3", answers=[4, 5])

    def test_in_calls_handled_bodies_ends_and_clauses(self):
        text = (
            "(def f () (handle h 0 (guard 1 (call g (do a 2))))) (def g (x) (guard x 3))"
            "(handler h (on a x s (guard 8 (go 5 s))) (end x s (guard 7 x)))"
        )
        self.records(text, 3, "guard 1, do a 2, guard 8, guard 5, clean 5, clean 1, guard 7, clean 7, clean 8")


class GoneOn(GuardCase):
    def test_once(self):
        text = "(def f () (handle h 0 (guard 1 (do a 2)))) (handler h (on a x s (go x s)) (end x s x))"
        self.records(text, 2, "guard 1, do a 2, clean 1")

    def test_in_each_going_on(self):
        text = "(def f () (handle h 0 (guard 1 (do a 2)))) (handler h (on a x s (+ (go 3 s) (go 4 s))) (end x s x))"
        self.records(text, 7, "guard 1, do a 2, clean 1, clean 1")
        text = (
            "(def f () (handle h 0 (guard 1 (+ (do a 2) (guard 6 (do b 5))))))"
            "(handler h (on a x s (+ (go 3 s) (go 4 s))) (end x s x))"
        )
        record = "guard 1, do a 2, guard 6, do b 5, clean 6, clean 1, guard 6, do b 5, clean 6, clean 1"
        self.records(text, 37, record, answers=[10, 20])

    def test_in_one_branch(self):
        text = "(def f (n) (handle h 0 (guard 1 (do a n)))) (handler h (on a x s (if x (go 3 s) (do b 4))) (end x s x))"
        self.records(text, 3, "guard 1, do a 5, clean 1", numbers=[5])
        self.records(text, 9, "guard 1, do a 0, do b 4, clean 1", numbers=[0], answers=[9])


class ThrownAway(GuardCase):
    def test_from_the_do_outward_when_the_clause_has_told_its_number(self):
        text = (
            "(def f () (guard 1 (handle h 0 (guard 2 (guard 3 (do a 4))))))"
            "(handler h (on a x s (guard 5 (do b x))) (end x s x))"
        )
        record = "guard 1, guard 2, guard 3, do a 4, guard 5, do b 4, clean 5, clean 3, clean 2, clean 1"
        self.records(text, 9, record, answers=[9])

    def test_guards_of_callers_and_of_handlers_within(self):
        text = (
            "(def f () (handle h 0 (guard 1 (call g 2)))) (def g (x) (guard x (handle k 0 (guard 3 (call i 4)))))"
            "(def i (x) (+ (guard 9 1) (guard x (do a x))))"
            "(handler h (on a x s x) (end x s x)) (handler k (end x s 0))"
        )
        record = "guard 1, guard 2, guard 3, guard 9, clean 9, guard 4, do a 4, clean 4, clean 3, clean 2, clean 1"
        self.records(text, 4, record)

    def test_a_guard_whose_number_is_not_told_yet_and_one_that_was_cleaned_are_not_cleaned(self):
        text = "(def f () (handle h 0 (+ (guard 1 2) (guard (do a 3) 4)))) (handler h (on a x s 5) (end x s x))"
        self.records(text, 5, "guard 1, clean 1, do a 3")

    def test_a_clause_without_go_within_what_is_thrown_away(self):
        text = TWO % "(do a 1)" + (
            "(handler i (on a x s (guard 7 (do b x))) (end x s x)) (handler o (on b x s 9) (end x s x))"
        )
        record = "guard 2, guard 3, guard 4, do a 1, guard 7, do b 1, clean 7, clean 4, clean 3, clean 2"
        self.records(text, 9, record)

    def test_a_clause_without_go_that_calls_what_does_the_deed(self):
        text = TWO % "(do a 1)" + (
            "(handler i (on a x s (guard 7 (call g x))) (end x s x)) (def g (x) (guard 6 (do b x)))"
            "(handler o (on b x s 9) (end x s x))"
        )
        record = "guard 2, guard 3, guard 4, do a 1, guard 7, guard 6, do b 1"
        record += ", clean 6, clean 7, clean 4, clean 3, clean 2"
        self.records(text, 9, record)

    def test_three_clauses_within_one_another(self):
        text = (
            "(def f () (handle o 0 (guard 1 (handle m 0 (guard 2 (handle i 0 (guard 3 (do a 0))))))))"
            "(handler i (on a x s (guard 4 (do b 0))) (end x s x))"
            "(handler m (on b x s (guard 5 (do c 0))) (end x s x))"
            "(handler o (on c x s (guard 6 7)) (end x s x))"
        )
        record = (
            "guard 1, guard 2, guard 3, do a 0, guard 4, do b 0, guard 5, do c 0, guard 6, clean 6,"
            " clean 5, clean 4, clean 3, clean 2, clean 1"
        )
        self.records(text, 7, record)

    def test_a_clause_that_went_on_ahead_of_being_held(self):
        text = TWO % "(do a 1)" + (
            "(handler i (on a x s (guard 7 (+ (go 5 s) (do b x)))) (end x s x)) (handler o (on b x s 9) (end x s x))"
        )
        record = "guard 2, guard 3, guard 4, do a 1, guard 7, clean 4, do b 1, clean 7, clean 3, clean 2"
        self.records(text, 9, record)

    def test_a_clause_that_went_on_ahead_of_being_held_counts_in_each_of_its_goings_on(self):
        text = TWO % "(do a 1)" + (
            "(handler i (on a x s (+ (go 5 s) (do b x))) (end x s x))"
            "(handler o (on b x s (+ (go 10 s) (go 20 s))) (end x s x))"
        )
        # Guard 4 is cleaned by the go alone, guard 3 by both goings-on.
        record = "guard 2, guard 3, guard 4, do a 1, clean 4, do b 1, clean 3, clean 3, clean 2"
        self.records(text, 40, record)

    def test_a_go_behind_being_held_counts_in_its_own_going_on_alone(self):
        text = TWO % "(do a 1)" + (
            "(handler i (on a x s (if (do b x) (go 5 s) (do c 6))) (end x s x))"
            "(handler o (on b x s (+ (go %s s) (go %s s))) (end x s x))"
        )
        first = "guard 2, guard 3, guard 4, do a 1, do b 1, do c 6, clean 4, clean 3, clean 4, clean 3, clean 2"
        self.records(text % (0, 1), 100 + 5, first, answers=[100])
        other = "guard 2, guard 3, guard 4, do a 1, do b 1, clean 4, clean 3, do c 6, clean 4, clean 3, clean 2"
        self.records(text % (1, 0), 100 + 5, other, answers=[100])

    def test_a_clause_held_with_no_go_of_it_done_that_goes_on_in_neither_going_on(self):
        text = TWO % "(do a 1)" + (
            "(handler i (on a x s (do b x)) (end x s x)) (handler o (on b x s (+ (go 10 s) (go 20 s))) (end x s x))"
        )
        record = "guard 2, guard 3, guard 4, do a 1, do b 1, clean 4, clean 3, clean 4, clean 3, clean 2"
        self.records(text, 30, record)

    def test_a_deed_in_the_parts_of_a_go_comes_ahead_of_the_go(self):
        text = TWO % "(do a 1)" + (
            "(handler i (on a x s (go (do b x) s)) (end x s x)) (handler o (on b x s 9) (end x s x))"
        )
        self.records(text, 9, "guard 2, guard 3, guard 4, do a 1, do b 1, clean 4, clean 3, clean 2")

    def test_a_clause_that_is_gone_on_from_is_in_what_is_thrown_away_with_its_own_guards_alone(self):
        text = TWO % "(+ (do a 1) (do b 2))" + (
            "(handler i (on a x s (guard 7 (go x s))) (end x s x)) (handler o (on b x s 9) (end x s x))"
        )
        record = "guard 2, guard 3, guard 4, do a 1, guard 7, do b 2, clean 4, clean 7, clean 3, clean 2"
        self.records(text, 9, record)

    def test_a_clause_whose_first_going_on_is_thrown_away(self):
        # o's clause throws away the first going-on of i's clause and the clause itself with it.
        text = TWO % "(if (do a 1) (do b 2) 3)" + (
            "(handler i (on a x s (+ (go 0 s) (go 1 s))) (end x s x)) (handler o (on b x s 9) (end x s x))"
        )
        record = "guard 2, guard 3, guard 4, do a 1, clean 4, do b 2, clean 4, clean 3, clean 2"
        self.records(text, 9, record)

    def test_what_is_thrown_away_in_one_going_on_is_there_in_the_other(self):
        text = (
            "(def f () (handle o 0 (guard 1 (handle i 0 (guard 2 (if (do b 0) (do a 3) 4))))))"
            "(handler i (on a x s (+ x 10)) (end x s x)) (handler o (on b x s (+ (go 1 s) (go 0 s))) (end x s x))"
        )
        record = "guard 1, guard 2, do b 0, do a 3, clean 2, clean 1, clean 2, clean 1"
        self.records(text, 17, record)

    def test_the_same_handler_within_itself(self):
        text = (
            "(def f () (handle h 1 (guard 11 (handle h 2 (guard 12 (do a 0))))))"
            "(handler h (on a x s (guard s (if x x (do a 5)))) (end x s x))"
        )
        record = "guard 11, guard 12, do a 0, guard 2, do a 5, guard 1, clean 1, clean 2, clean 12, clean 11"
        self.records(text, 5, record)


class CleansNothing(RunCase):
    def test_a_runs_end(self):
        record = rows("guard 1, guard 2, do a 3")
        text = "(def f () (guard 1 (guard 2 (%s 3))))"
        self.ends(text % "do a", ("asks", "a", 3), record=record)
        self.ends(text % "do a", ("spent",), turns=0, record=record[:2])
        self.ends(text % "* 999999999999999999", ("great",), record=record[:2])

    def test_in_a_clause_that_never_goes_on(self):
        text = "(def f () (handle h 0 (guard 1 (do a 3)))) (handler h (on a x s %s) (end x s x))"
        record = rows("guard 1, do a 3")
        self.ends(text % "(* 999999999999999999 2)", ("great",), record=record)
        self.ends(text % "(do b 2)", ("asks", "b", 2), record=record + rows("do b 2"))
        self.ends(text % "(do b 2)", ("spent",), turns=1, record=record)
        self.ends(text % "4", ("done", 4), record=record + rows("clean 1"))

    def test_done(self):
        # What the clause went on with once is done with, and nothing is left of it.
        text = "(def f () (handle h 0 (guard 1 (do a 3)))) (handler h (on a x s (+ 0 (go x s))) (end x s x))"
        self.ends(text, ("done", 3), record=rows("guard 1, do a 3, clean 1"))


if __name__ == "__main__":
    unittest.main()
