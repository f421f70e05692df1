"""Points 4, 5 and 16: what expressions tell, in which order they are done, and what is too great."""

import unittest

from deedwright.reader import read
from deedwright.walk import run
from helper import RunCase, in_function

BOUND = 10**18
MOST = 999999999999999999


class Tells(RunCase):
    def tells(self, body, number, **more):
        """A body without deeds and calls tells a number, takes no turn and records nothing."""
        self.ends(in_function(body), ("done", number), record=[], used=0, **more)

    def test_numbers(self):
        for number in (0, 1, 7, MOST):
            self.tells(str(number), number)

    def test_variables_of_no_to_eight_params(self):
        names = "abcdefgh"
        for count in range(9):
            for at in range(count):
                text = f"(def f ({' '.join(names[:count])}) {names[at]})"
                self.ends(text, ("done", 10 + at), numbers=range(10, 10 + count), record=[], used=0)
        self.ends("(def f () 3)", ("done", 3), record=[], used=0)

    def test_numbers_handed_in_at_the_bounds_and_somewhat_beyond(self):
        for number in (BOUND, -BOUND, 0, -1, BOUND + 1, -BOUND - 1):
            self.ends("(def f (x) x)", ("done", number), numbers=[number], record=[], used=0)
            self.ends("(def f (x) (do a x))", ("asks", "a", number), numbers=[number], record=[("do", "a", number)])
            self.ends("(def f (x) (do a x))", ("done", number), numbers=[3], answers=[number])

    def test_plus_minus_and_times(self):
        self.tells("(+ 3 4)", 7)
        self.tells("(- 3 4)", -1)
        self.tells("(* 3 4)", 12)
        self.tells("(- (* 2 (- 1 4)) (+ 1 1))", -8)
        self.tells("(* (- 0 3) (- 0 5))", 15)

    def test_less_tells_one_or_nought(self):
        for a, b, told in ((3, 4, 1), (4, 3, 0), (3, 3, 0), (-4, -3, 1), (-3, -4, 0), (-1, 0, 1), (0, -1, 0)):
            self.ends("(def f (a b) (< a b))", ("done", told), numbers=[a, b], record=[], used=0)
        self.ends("(def f (a b) (< a b))", ("done", 1), numbers=[-BOUND, BOUND])
        self.ends("(def f (a b) (< a b))", ("done", 0), numbers=[BOUND, -BOUND])

    def test_let(self):
        self.tells("(let x 3 (+ x x))", 6)
        self.tells("(let x 3 (let y 4 (- x y)))", -1)

    def test_a_let_hides_in_b_not_in_a(self):
        self.tells("(let x 1 (let x (+ x 10) (* x 2)))", 22)
        self.ends("(def f (x) (let x (- x 1) (* x x)))", ("done", 16), numbers=[5])

    def test_what_a_let_hid_is_there_again_behind_it(self):
        self.tells("(let x 1 (+ (let x 5 x) x))", 6)
        self.tells("(let x 1 (- (let x 5 (+ (let x 9 x) x)) x))", 13)
        self.tells("(let x 1 (+ (if (let x 0 x) 1 x) x))", 2)
        self.ends("(def f (x) (+ (let y (let x 2 x) (* y x)) x))", ("done", 30), numbers=[10])

    def test_a_lets_variable_with_the_name_of_an_item_a_deed_or_the_block(self):
        self.tells("(let f 3 (+ f f))", 6)
        text = "(def f () (hand h g 2)) (def g (x) (* x 10)) (def h (x) p (let p 3 (+ p (call p p))))"
        self.ends(text, ("done", 33), used=2)

    def test_if_chooses_by_nought_alone(self):
        for number, told in ((0, 2), (1, 1), (-1, 1), (7, 1), (BOUND, 1)):
            self.ends("(def f (x) (if x 1 2))", ("done", told), numbers=[number], record=[], used=0)

    def test_of_an_if_only_the_chosen_branch_is_done(self):
        text = "(def f (x) (if x (do a 1) (do b 2)))"
        self.ends(text, ("done", 9), numbers=[1], answers=[9], record=[("do", "a", 1)], used=1)
        self.ends(text, ("done", 9), numbers=[0], answers=[9], record=[("do", "b", 2)], used=1)
        great = f"(* {MOST} 2)"
        self.tells(f"(if 1 3 {great})", 3)
        self.tells(f"(if 0 {great} 3)", 3)
        self.tells(f"(if 1 3 (guard 1 {great}))", 3)


class Order(RunCase):
    def test_parts_are_done_from_left_to_right_each_once(self):
        bodies = (
            ("(+ (do a 1) (* (do b 2) (do c 3)))", 47),
            ("(+ (* (do a 1) (do b 2)) (do c 3))", 37),
            ("(< (do a 1) (- (do b 2) (do c 3)))", 0),
            ("(let x (do a 1) (+ (do b 2) (do c 3)))", 13),
            ("(if (do a 1) (+ (do b 2) (do c 3)) 0)", 13),
            ("(call g (do a 1) (do b 2) (do c 3))", 6),
            ("(guard (do a 1) (+ (do b 2) (do c 3)))", 13),
            ("(handle h (do a 1) (+ (do b 2) (do c 3)))", 13),
        )
        for body, told in bodies:
            text = in_function(body) + "(def g (x y z) (- x (- y z))) (handler h (end x s x))"
            self.ends(text, ("done", told), answers=[5, 6, 7])
            deeds = [row for row in run(read(text), "f", [], [5, 6, 7], 2000)[1] if row[0] == "do"]
            self.assertEqual(deeds, [("do", "a", 1), ("do", "b", 2), ("do", "c", 3)])

    def test_a_part_is_done_ahead_of_what_it_is_a_part_of(self):
        self.ends(
            "(def f () (do a (do b (do c 1))))",
            ("done", 4),
            answers=[2, 3, 4],
            record=[("do", "c", 1), ("do", "b", 2), ("do", "a", 3)],
            used=3,
        )

    def test_the_numbers_of_a_call_go_to_the_params_in_their_order(self):
        text = "(def f (a b c) (call g c (call g a b 1) b)) (def g (x y z) (- (* x 100) (+ (* y 10) z)))"
        # The inner one tells 2 * 100 - (3 * 10 + 1) = 169.
        self.ends(text, ("done", 5 * 100 - 1690 - 3), numbers=[2, 3, 5], used=2)


class Great(RunCase):
    def reckons(self, sign, a, b, end):
        self.ends(f"(def f (a b) ({sign} a b))", end, numbers=[a, b], record=[], used=0)

    def test_at_the_bound_and_one_beyond_it(self):
        self.reckons("+", BOUND - 1, 1, ("done", BOUND))
        self.reckons("+", BOUND, 0, ("done", BOUND))
        self.reckons("+", BOUND, 1, ("great",))
        self.reckons("+", 1 - BOUND, -1, ("done", -BOUND))
        self.reckons("+", -BOUND, -1, ("great",))
        self.reckons("-", BOUND - 1, -1, ("done", BOUND))
        self.reckons("-", BOUND, -1, ("great",))
        self.reckons("-", -BOUND, 0, ("done", -BOUND))
        self.reckons("-", -BOUND, 1, ("great",))
        self.reckons("*", 10**9, 10**9, ("done", BOUND))
        self.reckons("*", -(10**9), 10**9, ("done", -BOUND))
        # 101 and 9901 are the factors of one million and one.
        self.reckons("*", 1000000000001 * 101, 9901, ("great",))
        self.reckons("*", 1000000000001 * 101, -9901, ("great",))

    def test_the_first_beyond_by_times(self):
        # 1000000000000000001 is 101 times this.
        other = 9900990099009901
        self.assertEqual(101 * other, BOUND + 1)
        self.reckons("*", 101, other, ("great",))
        self.reckons("*", -101, other, ("great",))
        self.reckons("*", 101, other - 1, ("done", BOUND - 100))
        self.reckons("*", BOUND, BOUND, ("great",))
        self.reckons("*", BOUND, -1, ("done", -BOUND))
        self.reckons("*", BOUND, 0, ("done", 0))

    def test_less_is_never_too_great(self):
        self.reckons("<", BOUND, BOUND, ("done", 0))
        self.reckons("<", -BOUND - 1, BOUND + 1, ("done", 1))

    def test_what_is_beyond_is_not_refused_where_it_is_handed_in(self):
        self.reckons("-", BOUND + 1, 1, ("done", BOUND))
        self.reckons("+", BOUND + 1, 0, ("great",))

    def test_nothing_is_done_behind_it(self):
        great = f"(+ {MOST} 2)"
        self.ends(in_function(f"(+ {great} (do a 1))"), ("great",), record=[], used=0)
        self.ends(in_function(f"(+ (do a 1) (+ {great} (do b 1)))"), ("great",), answers=[0], record=[("do", "a", 1)])
        self.ends(in_function(f"(do a {great})"), ("great",), record=[], used=0)
        self.ends(in_function(f"(call g {great})") + "(def g (x) (do a x))", ("great",), record=[], used=0)
        self.ends(in_function(f"(guard {great} 1)"), ("great",), record=[], used=0)
        self.ends(in_function(f"(if {great} (do a 1) (do b 1))"), ("great",), record=[], used=0)
        self.ends(in_function(f"(let x {great} (do a 1))"), ("great",), record=[], used=0)

    def test_in_what_is_handled_in_a_clause_and_in_an_end(self):
        great = f"(+ {MOST} 2)"
        handler = "(handler h (on a x s %s) (end x s %s))"
        self.ends(in_function(f"(handle h 0 {great})") + handler % ("x", "(do b 1)"), ("great",), record=[])
        text = in_function("(handle h 0 (guard 5 (do a 1)))") + handler % (great, "x")
        self.ends(text, ("great",), record=[("guard", 5), ("do", "a", 1)], used=1)
        text = in_function("(handle h 0 (do a 1))") + handler % (f"(go {great} s)", "x")
        self.ends(text, ("great",), record=[("do", "a", 1)], used=1)
        text = in_function("(handle h 0 (do a 1))") + handler % ("(go x s)", great)
        self.ends(text, ("great",), record=[("do", "a", 1)], used=2)


if __name__ == "__main__":
    unittest.main()
