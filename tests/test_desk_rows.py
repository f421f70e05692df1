"""Point 29 and the interface of Stage 9: the rows of a desk and their answers."""

import unittest

from deedwright.desk import Desk
from deedwright.errors import NoHold

MAIN = (
    "(def main (n) (call f n)) (def f (x) (handle h 1 (+ (do ask x) (do tell 2))))"
    "(def twice (x) p (call p (call p x)))"
    "(handler h (on tell x s (go (do stop x) (+ s 1))) (end x s (+ x (* 100 s))))"
)


class DeskCase(unittest.TestCase):
    def setUp(self):
        self.desk = Desk()

    def says(self, *pairs):
        for row, answer in pairs:
            with self.subTest(row=row[:100]):
                told = self.desk.say(row)
                self.assertEqual(told, answer)
                self.assertIs(type(told), str)


class Put(DeskCase):
    def test_ok(self):
        self.says(("put (def f () 3)", "ok"), ("run f 0", "done 3"))

    def test_nothing(self):
        self.says(("put ", "ok"), ("put  ", "ok"), ("put \n", "ok"))

    def test_any_blanks_and_line_ends_in_the_text(self):
        self.says(("put   (def  f(x)\n  (+ x\n1 ) )\n ", "ok"), ("run f 0 4", "done 5"))

    def test_new_items_stand_behind(self):
        self.says(("put (def f () (call g))(def g () 1)", "ok"), ("put (def i () (call g))", "ok"))
        self.says(("run f 5", "done 1"), ("run i 5", "done 1"))

    def test_items_put_anew_stand_in_the_place_of_those_of_their_names(self):
        self.says(("put (def f () (call g)) (def g () 1)", "ok"), ("put (def g () 2)", "ok"), ("run f 5", "done 2"))
        self.says(("put (def g () (call i)) (def i () 3)", "ok"), ("run f 5", "done 3"))

    def test_the_order_of_the_items(self):
        # check tells the first item that is wrong, so the place of each can be seen by its refusal; and
        # what the desk keeps is told in that order, too.
        self.desk.say("put (def a () 1) (def b () 2) (def c () 3)")
        self.desk.say("put (def d () 4) (def b () 5) (def a () 6)")
        self.assertEqual([item[1] for item in self.desk.program], ["a", "b", "c", "d"])
        self.assertEqual([item[4] for item in self.desk.program], [("num", number) for number in (6, 5, 3, 4)])

    def test_a_function_in_the_place_of_a_handler_and_the_other_way_round(self):
        self.says(("put (handler f (end x s x)) (def g () 1)", "ok"))
        self.says(("put (handler g (end x s s)) (def f () 2)", "ok"))
        self.says(("run f 1", "done 2"), ("put (def f () (handle g 7 1))", "ok"), ("run f 1", "done 7"))

    def test_items_that_need_one_another_at_once(self):
        self.says(("put (def f () (call g 1)) (def g (x) x)", "ok"))
        self.says(("put (def g (x y) (+ x y)) (def f () (call g 1 2))", "ok"), ("run f 1", "done 3"))


class Row(DeskCase):
    def test_own_and_let(self):
        self.desk.say("put " + MAIN)
        self.says(("row main", "ask stop /"), ("row f", "ask stop /"), ("row h", "stop /"))
        self.says(("row twice", "/ ask stop tell"))

    def test_both(self):
        self.desk.say(
            "put (def f (x) p (+ (do ask 1) (+ (do tell 1) (handle h 0 (call p x)))))"
            "(handler h (on halt x s x) (end x s x))"
        )
        self.says(("row f", "ask tell /"))
        self.desk.say("put (def stops (x) (do stop x))")
        self.says(("row f", "ask tell / stop"))
        self.desk.say("put (def starts (x) (do start x))")
        self.says(("row f", "ask tell / start stop"))

    def test_nothing_but_the_stroke(self):
        self.desk.say("put (def f () 1) (handler h (on a x s x) (end x s x)) (def g () (handle h 0 (do a 1)))")
        self.says(("row f", "/"), ("row h", "/"), ("row g", "/"))


class Lack(DeskCase):
    def test_none_and_the_first_that_lacks(self):
        self.desk.say("put " + MAIN)
        self.says(("lack main", "ask by main f"), ("lack main ask", "stop by main f h"))
        self.says(("lack main stop", "ask by main f"), ("lack main stop ask", "none"), ("lack f ask stop", "none"))

    def test_any_names(self):
        self.desk.say("put " + MAIN)
        self.says(("lack main stop ask ask other main", "none"), ("lack main other", "ask by main f"))

    def test_a_function_without_deeds(self):
        self.desk.say("put (def f () 1)")
        self.says(("lack f", "none"), ("lack f f", "none"))

    def test_a_function_with_the_name_of_its_deed(self):
        self.desk.say("put (def ask () (do ask 1))")
        self.says(("lack ask", "ask by ask"), ("lack ask ask", "none"))

    def test_a_way_through_a_block(self):
        self.desk.say("put (def f () (hand g i 1)) (def g (x) p (call p x)) (def i (x) (do ask x))")
        self.says(("lack f", "ask by f g i"))


class Run(DeskCase):
    def test_the_ends(self):
        self.desk.say("put (def f (x) (* x 999999999999999999)) (def g () (call g)) (def i (x) (do ask (- 0 x)))")
        self.says(("run f 0 0", "done 0"), ("run f 2000 -1", "done -999999999999999999"), ("run f 0 2", "great"))
        self.says(("run g 0", "spent"), ("run g 2000", "spent"), ("run i 1 7", "held 1 ask -7"), ("run i 0 7", "spent"))

    def test_no_and_many_numbers(self):
        self.desk.say("put (def f () 1) (def g (a b c d e f g h) (- (* a h) (* b c)))")
        self.says(("run f 5", "done 1"), ("run g 5 1 2 3 4 5 6 7 -8", "done -14"))

    def test_numbers_at_their_bounds(self):
        self.desk.say("put (def f (x) x)")
        most = "9" * 18
        self.says((f"run f 0 {most}", f"done {most}"), (f"run f 0 -{most}", f"done -{most}"), ("run f 0 -1", "done -1"))
        self.says(("run f 2000 0", "done 0"), ("run f 1000 10", "done 10"))

    def test_each_run_that_asks_waits_by_a_number_of_its_own(self):
        self.desk.say("put (def f (x) (+ (do ask x) (do tell 5)))")
        self.says(("run f 9 1", "held 1 ask 1"), ("run f 9 2", "held 2 ask 2"), ("run f 9 1", "held 3 ask 1"))

    def test_a_run_that_does_not_ask_takes_no_number(self):
        self.desk.say("put (def f (x) (if x (do ask x) 3))")
        self.says(("run f 9 1", "held 1 ask 1"), ("run f 9 0", "done 3"))
        self.says(("run f 0 1", "spent"), ("run f 9 2", "held 2 ask 2"))


class On(DeskCase):
    def test_gone_on_with_often(self):
        self.desk.say("put (def f (x) (+ (do ask x) (do tell 5)))")
        self.says(("run f 9 1", "held 1 ask 1"), ("on 1 10", "held 2 tell 5"))
        self.says(("on 2 20", "done 30"), ("on 2 -21", "done -11"))
        self.says(("on 1 10", "held 3 tell 5"), ("on 1 1", "held 4 tell 5"))
        self.says(("on 4 1", "done 2"), ("on 3 1", "done 11"))
        self.says(("on 2 20", "done 30"))

    def test_the_bound_and_the_turns_so_far(self):
        self.desk.say("put (def f (x) (+ (do ask x) (do tell 5)))")
        self.says(("run f 1 1", "held 1 ask 1"), ("on 1 10", "spent"), ("on 1 10", "spent"))

    def test_great(self):
        self.desk.say("put (def f (x) (* 999999999999999999 (do ask x)))")
        self.says(("run f 1 1", "held 1 ask 1"), ("on 1 2", "great"), ("on 1 1", "done 999999999999999999"))

    def test_in_the_program_as_it_was_when_the_run_began(self):
        self.desk.say("put (def f () (+ (do ask 1) (call g (do ask 2)))) (def g (x) (* x 2))")
        self.says(("run f 9", "held 1 ask 1"), ("put (def g (x) (* x 1000))", "ok"), ("on 1 0", "held 2 ask 2"))
        self.says(("on 2 3", "done 6"), ("run f 9", "held 3 ask 1"))
        self.says(("on 3 0", "held 4 ask 2"), ("on 4 3", "done 3000"))
        self.says(("put (def f () 1)", "ok"), ("on 2 4", "done 8"))

    def test_numbers_of_runs_of_two_figures(self):
        self.desk.say("put (def f () (do ask 1))")
        for number in range(1, 13):
            self.says(("run f 9", f"held {number} ask 1"))
        self.says(("on 12 5", "done 5"), ("on 10 6", "done 6"))
        with self.assertRaises(NoHold):
            self.desk.say("on 13 5")


class Code(DeskCase):
    def test_the_ends(self):
        self.desk.say("put (def f (x) (* x 999999999999999999)) (def g () (call g)) (def i (x) (do ask (- 0 x)))")
        self.says(("code f 0 0 /", "done 0 copied 0"), ("code f 0 2 /", "great copied 0"))
        self.says(("code g 7 /", "spent copied 0"), ("code i 1 7 /", "asks ask -7 copied 0"))
        self.says(("code i 1 7 / 6", "done 6 copied 0"), ("code i 1 7 / -6 5 4", "done -6 copied 0"))

    def test_numbers_and_answers(self):
        self.desk.say("put (def f (x y) (+ (* x (do ask 1)) (* y (do ask 2))))")
        self.says(("code f 9 2 3 / 10 100", "done 320 copied 0"), ("code f 9 2 3 / 10", "asks ask 2 copied 0"))
        self.says(("code f 9 2 3 /", "asks ask 1 copied 0"))

    def test_copied(self):
        self.desk.say("put (def f () (handle h 0 (do a 1))) (handler h (on a x s (+ (go 1 s) (go 2 s))) (end x s x))")
        self.says(("code f 9 /", "done 3 copied 2"), ("code f 2 /", "spent copied 2"), ("code f 1 /", "spent copied 0"))

    def test_a_run_of_code_that_asks_does_not_wait(self):
        self.desk.say("put (def f () (do ask 1))")
        self.says(("code f 9 /", "asks ask 1 copied 0"), ("run f 9", "held 1 ask 1"))
        self.says(("code f 9 /", "asks ask 1 copied 0"))
        self.says(("run f 9", "held 2 ask 1"))


class Last(DeskCase):
    def test_ahead_of_any_run(self):
        self.says(("last", ""), ("put (def f () 1)", "ok"), ("last", ""))

    def test_behind_run_on_and_code(self):
        self.desk.say("put (def f (x) (guard 5 (+ (do ask x) (do tell (- 0 x))))) (def g () 1)")
        first, second = "guard 5; do ask 7", "; do tell -7"
        self.says(("run f 9 7", "held 1 ask 7"), ("last", first), ("last", first))
        self.says(("on 1 4", "held 2 tell -7"), ("last", first + second))
        self.says(("on 2 1", "done 5"), ("last", first + second + "; clean 5"))
        self.says(("on 1 4", "held 3 tell -7"), ("last", first + second))
        self.says(("code f 9 8 / 1 2", "done 3 copied 0"), ("last", "guard 5; do ask 8; do tell -8; clean 5"))
        self.says(("code f 1 8 / 1 2", "spent copied 0"), ("last", "guard 5; do ask 8"))
        self.says(("run g 0", "done 1"), ("last", ""))

    def test_other_rows_leave_it(self):
        self.desk.say("put (def f (x) (do ask x))")
        self.desk.say("run f 9 7")
        for row in ("put (def g () 1)", "row f", "lack f", "lack f ask", "last"):
            self.desk.say(row)
            self.says(("last", "do ask 7"))


class Apart(unittest.TestCase):
    def test_two_desks(self):
        one, two = Desk(), Desk()
        one.say("put (def f () (do ask 1))")
        with self.assertRaises(ValueError):
            two.say("run f 1")
        two.say("put (def f () (do tell 2))")
        self.assertEqual([one.say("run f 1"), one.say("run f 1")], ["held 1 ask 1", "held 2 ask 1"])
        self.assertEqual(two.say("run f 1"), "held 1 tell 2")
        self.assertEqual([one.say("last"), two.say("last")], ["do ask 1", "do tell 2"])
        with self.assertRaises(NoHold):
            two.say("on 2 5")
        self.assertEqual(one.say("on 2 5"), "done 5")
        self.assertEqual(Desk().say("last"), "")


if __name__ == "__main__":
    unittest.main()
