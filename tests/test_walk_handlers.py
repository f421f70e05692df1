"""Point 18: deeds, the handlers that answer them, and goings-on."""

import unittest

from helper import RunCase


def handled(body, clauses, end="(end x s x)"):
    """A program whose f does a body under a handler h, with kept number 5 at first."""
    return f"(def f () (handle h 5 {body})) (handler h {clauses} {end})"


class ByHand(RunCase):
    def test_answers_in_their_order(self):
        text = "(def f () (- (* 100 (do a 1)) (+ (* 10 (do b 2)) (do a 3))))"
        record = [("do", "a", 1), ("do", "b", 2), ("do", "a", 3)]
        self.ends(text, ("done", 700 - 80 - 9), answers=[7, 8, 9], record=record, used=3)

    def test_asks_where_no_answer_is_left(self):
        text = "(def f () (+ (do a 1) (do b 2)))"
        self.ends(text, ("asks", "a", 1), record=[("do", "a", 1)], used=1)
        self.ends(text, ("asks", "b", 2), answers=[4], record=[("do", "a", 1), ("do", "b", 2)], used=2)

    def test_answers_left_over_change_nothing(self):
        text = "(def f () (+ (do a 1) (do b 2)))"
        record = [("do", "a", 1), ("do", "b", 2)]
        for more in ([], [0], [6, 7, 8]):
            self.ends(text, ("done", 9), answers=[4, 5] + more, record=record, used=2)
        self.ends("(def f () 3)", ("done", 3), answers=[1, 2], record=[], used=0)
        self.ends("(def f () (call f))", ("spent",), answers=[1, 2], turns=4, record=[], used=4)
        great = "(def f () (+ (do a 1) (* 999999999999999999 2)))"
        self.ends(great, ("great",), answers=[1, 2], record=[("do", "a", 1)], used=1)

    def test_negative_answers_and_numbers(self):
        self.ends("(def f () (do a (- 0 3)))", ("done", -8), answers=[-8], record=[("do", "a", -3)])
        self.ends("(def f () (do a (- 0 3)))", ("asks", "a", -3), record=[("do", "a", -3)])

    def test_a_deed_that_no_handler_round_it_has_a_clause_for(self):
        text = handled("(+ (do b 1) 2)", "(on a x s (go x s))")
        self.ends(text, ("done", 12), answers=[10], record=[("do", "b", 1)], used=1)
        self.ends(text, ("asks", "b", 1), record=[("do", "b", 1)], used=1)

    def test_a_deed_done_beside_a_handle_not_in_it(self):
        text = "(def f () (+ (do a 1) (+ (handle h (do a 2) 3) (do a 4)))) (handler h (on a x s 100) (end x s s))"
        record = [("do", "a", 1), ("do", "a", 2), ("do", "a", 4)]
        self.ends(text, ("done", 6), answers=[1, 2, 3], record=record, used=3)


class Clauses(RunCase):
    def test_x_is_the_deeds_number_and_s_the_kept_one(self):
        self.ends(handled("(do a 7)", "(on a x s (- (* 10 x) s))"), ("done", 65), record=[("do", "a", 7)], used=1)
        self.ends(handled("(do a 7)", "(on a s x (- (* 10 s) x))"), ("done", 65))

    def test_a_clause_that_never_goes_on_tells_what_the_handle_tells(self):
        self.ends(handled("(+ 1000 (do a 7))", "(on a x s x)"), ("done", 7), used=1)
        text = "(def f () (+ 1 (handle h 5 (* 1000 (do a 7))))) (handler h (on a x s x) (end x s 0))"
        self.ends(text, ("done", 8), used=1)

    def test_one_go(self):
        text = handled("(+ 1000 (do a 7))", "(on a x s (go (* x 2) s))")
        self.ends(text, ("done", 1014), record=[("do", "a", 7)], used=2)

    def test_what_is_told_behind_a_go_comes_behind_the_end(self):
        text = handled("(+ 1000 (do a 7))", "(on a x s (+ 1 (go x s)))", "(end x s (* x 2))")
        self.ends(text, ("done", 2015), used=2)

    def test_the_kept_number_that_each_go_gives(self):
        end = "(end x s (+ x (* s 1000)))"
        text = handled("(+ (do a 1) (+ (do a 2) (do a 3)))", "(on a x s (go (* x s) (+ s 1)))", end)
        self.ends(text, ("done", 5 + 12 + 21 + 8000), used=6)

    def test_two_goes_one_behind_the_other(self):
        text = handled("(* 10 (do a 7))", "(on a x s (- (go 3 s) (go 2 s)))")
        self.ends(text, ("done", 10), used=3)

    def test_two_goes_with_kept_numbers_of_their_own(self):
        text = handled("(+ (do a 1) (do a 2))", "(on a x s (+ (go x (+ s 1)) (* 100 (go x (* s 10)))))", "(end x s s)")
        # The kept numbers are 7, 60; 51, 500.
        self.ends(text, ("done", 7 + 100 * 60 + 100 * (51 + 100 * 500)), used=9)

    def test_a_go_in_one_branch(self):
        text = "(def f (n) (handle h 0 (+ 100 (do a n)))) (handler h (on a x s (if x (go 1 s) 9)) (end x s (* x 2)))"
        self.ends(text, ("done", 202), numbers=[4], used=2)
        self.ends(text, ("done", 9), numbers=[0], used=1)

    def test_a_go_in_the_parts_of_another_go(self):
        text = handled("(* 10 (do a 7))", "(on a x s (go (go x s) s))")
        self.ends(text, ("done", 700), used=3)
        text = handled("(* 10 (do a 7))", "(on a x s (go x (go 1 s)))", "(end x s (+ x s))")
        self.ends(text, ("done", 70 + 15), used=3)

    def test_a_go_in_an_ifs_question_a_lets_a_a_call_a_guard_and_the_s_of_a_handle(self):
        end = "(end x s (+ x s))"
        self.ends(handled("(do a 7)", "(on a x s (if (go x s) 1 2))", end), ("done", 1))
        self.ends(handled("(do a 7)", "(on a x s (if (go (- 0 s) s) 1 2))", end), ("done", 2))
        self.ends(handled("(do a 7)", "(on a x s (let x (go x s) (* x x)))", end), ("done", 144))
        more = "(def g (a b) (- a b)) (handler k (end x s (- x s)))"
        self.ends(handled("(do a 7)", "(on a x s (call g (go x s) (go 0 s)))", end) + more, ("done", 7))
        self.ends(handled("(do a 7)", "(on a x s (handle k (go x s) 100))", end) + more, ("done", 88))
        self.ends(handled("(do a 7)", "(on a x s (guard (go x s) (go 1 s)))", end) + more, ("done", 6))
        self.ends(
            handled("(do a 7)", "(on a x s (do b (go x s)))", end),
            ("done", 3),
            answers=[3],
            record=[("do", "a", 7), ("do", "b", 12)],
        )

    def test_the_variables_of_a_clause_behind_a_go(self):
        text = handled("(do a 7)", "(on a x s (let y (go 1 s) (let x (+ x 1) (- (* 100 y) (+ x s)))))")
        self.ends(text, ("done", 100 - 13), used=2)

    def test_each_going_on_has_its_own_answer_in_what_is_left(self):
        text = handled("(let y (do a 1) (* y (+ y (do b y))))", "(on a x s (+ (go 2 s) (* 1000 (go 3 s))))")
        record = [("do", "a", 1), ("do", "b", 2), ("do", "b", 3)]
        self.ends(text, ("done", 2 * 12 + 1000 * 3 * 23), answers=[10, 20], record=record, used=5)

    def test_clauses_of_several_deeds(self):
        clauses = "(on b x s (go 20 s)) (on c x s (go 300 s)) (on a x s (go 4 s))"
        text = handled("(+ (do a 1) (+ (do b 2) (do c 3)))", clauses)
        self.ends(text, ("done", 324), used=6)


class Ends(RunCase):
    def test_the_end_is_done_when_the_handled_b_is_done(self):
        self.ends(handled("7", "", "(end x s (- (* 10 x) s))"), ("done", 65), record=[], used=0)
        self.ends(handled("7", "", "(end s x (- (* 10 s) x))"), ("done", 65), record=[], used=0)

    def test_the_kept_number_that_s_tells(self):
        text = "(def f (n) (handle h (* n n) 1)) (handler h (end x s s))"
        self.ends(text, ("done", 16), numbers=[4], used=0)

    def test_the_end_is_done_once_for_each_going_on(self):
        text = handled("(do a 7)", "(on a x s (+ (go 1 s) (go 2 s)))", "(end x s (do b x))")
        record = [("do", "a", 7), ("do", "b", 1), ("do", "b", 2)]
        self.ends(text, ("done", 30), answers=[10, 20], record=record, used=5)

    def test_no_end_where_the_clause_never_goes_on(self):
        self.ends(handled("(do a 7)", "(on a x s 3)", "(end x s (do b x))"), ("done", 3), record=[("do", "a", 7)])

    def test_the_handler_is_off_in_its_end(self):
        text = handled("7", "(on a x s 1000)", "(end x s (do a (+ x s)))")
        self.ends(text, ("done", 3), answers=[3], record=[("do", "a", 12)], used=1)
        text = (
            "(def f () (handle o 0 (handle h 5 7))) (handler h (on a x s 1000) (end x s (do a x)))"
            "(handler o (on a x s (go (+ x 1) s)) (end x s x))"
        )
        self.ends(text, ("done", 8), record=[("do", "a", 7)], used=2)


class Nearest(RunCase):
    def test_the_nearest_handler_that_has_a_clause(self):
        text = (
            "(def f () (handle o 0 (handle i 0 (+ (do a 1) (do b 2)))))"
            "(handler o (on a x s (go 10 s)) (on b x s (go 20 s)) (end x s x))"
            "(handler i (on a x s (go 100 s)) (end x s x))"
        )
        self.ends(text, ("done", 120), record=[("do", "a", 1), ("do", "b", 2)], used=4)

    def test_it_is_found_in_the_run_not_in_the_text(self):
        text = (
            "(def f () (+ (handle o 0 (call g)) (handle i 0 (call g)))) (def g () (do a 1))"
            "(handler o (on a x s (go 10 s)) (end x s x)) (handler i (on a x s (go 100 s)) (end x s x))"
        )
        self.ends(text, ("done", 110), used=6)

    def test_a_clause_is_done_without_its_handler(self):
        text = handled("(do a 7)", "(on a x s (do a (+ x 1)))")
        self.ends(text, ("done", 3), answers=[3], record=[("do", "a", 7), ("do", "a", 8)], used=2)

    def test_a_deed_of_the_handlers_own_in_its_clause_is_answered_further_out(self):
        text = (
            "(def f () (handle o 0 (handle h 0 (do a 7)))) (handler h (on a x s (go (do a (+ x 1)) s)) (end x s x))"
            "(handler o (on a x s (go (* x 10) s)) (end x s x))"
        )
        self.ends(text, ("done", 80), record=[("do", "a", 7), ("do", "a", 8)], used=4)

    def test_a_clause_is_done_without_the_handlers_that_stood_within(self):
        text = (
            "(def f () (handle o 0 (handle i 0 (do a 7)))) (handler o (on a x s (do b x)) (end x s x))"
            "(handler i (on b x s 1000) (end x s x))"
        )
        self.ends(text, ("done", 4), answers=[4], record=[("do", "a", 7), ("do", "b", 7)], used=2)

    def test_the_handlers_that_stood_within_are_there_again_behind_a_go(self):
        text = (
            "(def f () (handle o 0 (handle i 5 (+ (do b 1) (+ (do a 7) (do b 2))))))"
            "(handler o (on a x s (go x s)) (end x s x))"
            "(handler i (on b x s (go s (+ s 1))) (end x s (+ x (* 100 s))))"
        )
        self.ends(text, ("done", 5 + 7 + 6 + 700), used=6)

    def test_within_a_gone_on_b_the_handler_answers_again(self):
        text = handled("(+ (do a 1) (do a 2))", "(on a x s (go (* x 10) s))")
        self.ends(text, ("done", 30), used=4)

    def test_behind_its_handle_a_handler_answers_no_more(self):
        text = "(def f () (+ (handle h 0 (do a 1)) (do a 2))) (handler h (on a x s (go 10 s)) (end x s x))"
        self.ends(text, ("done", 14), answers=[4], record=[("do", "a", 1), ("do", "a", 2)], used=3)

    def test_the_same_handler_within_itself(self):
        text = (
            "(def f () (handle h 1 (+ (do a 1) (* 10 (handle h 2 (+ (do a 2) (do b 3)))))))"
            "(handler h (on a x s (go s (+ s 5))) (end x s (+ x (* 100 s))))"
        )
        # The inner one's numbers are 2, 4 and 700, the outer one's 1, ten times 706 and 600.
        record = [("do", "a", 1), ("do", "a", 2), ("do", "b", 3)]
        self.ends(text, ("done", 1 + 7060 + 600), answers=[4], record=record, used=5)

    def test_the_same_handler_within_itself_whose_clause_does_its_own_deed(self):
        text = (
            "(def f () (handle h 1 (handle h 2 (handle h 3 (do a 0)))))"
            "(handler h (on a x s (do a (+ (* x 10) s))) (end x s x))"
        )
        record = [("do", "a", number) for number in (0, 3, 32, 321)]
        self.ends(text, ("done", 6), answers=[6], record=record, used=4)

    def test_a_go_in_a_clause_that_stands_under_the_same_handler(self):
        text = (
            "(def f () (handle h 1 (+ 100 (handle h 2 (+ 1000 (do a 0))))))"
            "(handler h (on a x s (if (< x 1) (go (do a 7) s) (go (* x s) s))) (end x s (+ x s)))"
        )
        # The inner clause asks the outer handler, which answers 7 times 1.
        self.ends(text, ("done", 1007 + 2 + 100 + 1), used=4)


class Held(RunCase):
    def test_calls_handles_and_lets_in_what_is_held(self):
        text = (
            "(def f () (handle o 0 (let k 3 (+ k (call g 10)))))"
            "(def g (n) (let m (* n 2) (handle i m (- (+ n (do a 1)) m))))"
            "(handler o (on a x s (+ (go 5 (+ s 1)) (* 1000 (go 6 (+ s 2))))) (end x s (+ x (* 100 s))))"
            "(handler i (end x s (+ x s)))"
        )
        first = 3 + (10 + 5 - 20 + 20) + 100
        second = 3 + (10 + 6 - 20 + 20) + 200
        self.ends(text, ("done", first + 1000 * second), used=4)

    def test_a_going_on_from_within_a_going_on(self):
        # Two coins, all four throws: each tells its own number.
        text = handled("(+ (* 10 (do a 1)) (do a 2))", "(on a x s (+ (go 0 s) (* 100 (go 1 s))))")
        self.ends(text, ("done", 0 + 100 * 1 + 100 * (10 + 100 * 11)), used=9)

    def test_what_an_outer_clause_holds_has_the_inner_clause_in_it(self):
        text = (
            "(def f () (handle o 0 (handle i 0 (+ 1 (do a 7)))))"
            "(handler i (on a x s (+ (* 10 (go (do b x) s)) (go 3 s))) (end x s x))"
            "(handler o (on b x s (+ (go 1 s) (* 1000 (go 2 s)))) (end x s x))"
        )
        # For each of o's answers y the inner clause tells 10 * (y + 1) + 4.
        self.ends(text, ("done", 24 + 1000 * 34), record=[("do", "a", 7), ("do", "b", 7)], used=8)

    def test_a_deed_by_hand_in_what_is_gone_on_with_twice(self):
        text = handled("(+ (do a 1) (do b 2))", "(on a x s (- (go 10 s) (go 20 s)))")
        record = [("do", "a", 1), ("do", "b", 2), ("do", "b", 2)]
        self.ends(text, ("done", -12), answers=[3, 5], record=record, used=5)
        self.ends(text, ("asks", "b", 2), answers=[3], record=record, used=5)

    def test_a_counter_kept_across_calls(self):
        text = (
            "(def f (n) (handle h 0 (call g n))) (def g (n) (if n (+ (do tick 1) (call g (- n 1))) (do get 0)))"
            "(handler h (on tick x s (go 0 (+ s x))) (on get x s (go s s)) (end x s (+ (* 1000 x) s)))"
        )
        self.ends(text, ("done", 12012), numbers=[12], used=1 + 12 * 3 + 2)

    def test_a_handler_in_a_clause(self):
        text = (
            "(def f () (handle h 5 (+ (do a 1) (do a 2))))"
            "(handler h (on a x s (handle k x (+ (do b x) (call g x)))) (end x s x)) (def g (x) (do a (* 100 x)))"
            "(handler k (on b x s (go (+ x s) s)) (end x s (- x s)))"
        )
        self.ends(text, ("done", 2 + 9 - 1), answers=[9], record=[("do", "a", 1), ("do", "b", 1), ("do", "a", 100)])


if __name__ == "__main__":
    unittest.main()
