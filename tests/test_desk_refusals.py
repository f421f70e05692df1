"""Point 29: which rows a desk refuses, by which refusal, and that these change nothing."""

import unittest

from deedwright.desk import Desk
from deedwright.errors import NoCount, NoGo, NoHold, NoName, NoRow, NoText, WrightError

PROGRAM = (
    "(def f (x) (+ x (do ask x))) (def none () 1) (def block (x) p (call p x))"
    "(handler h (on ask x s (go x s)) (end x s x))"
)


class RefusalCase(unittest.TestCase):
    def setUp(self):
        self.desk = Desk()
        for row in ("put " + PROGRAM, "run f 9 7"):
            self.desk.say(row)

    def refuses(self, kind, *rows):
        for row in rows:
            with self.subTest(row=row[:100]):
                with self.assertRaises(ValueError) as caught:
                    self.desk.say(row)
                self.assertIs(type(caught.exception), kind)
                self.assertIsInstance(caught.exception, WrightError)
                self.is_unchanged()

    def is_unchanged(self):
        """The items, the runs that wait, and last are as they were."""
        self.assertEqual(self.desk.say("last"), "do ask 7")
        self.assertEqual(self.desk.say("row f"), "ask /")
        self.assertEqual(self.desk.say("row h"), "/")
        self.assertEqual(self.desk.say("lack f"), "ask by f")
        self.assertEqual([item[1] for item in self.desk.program], ["f", "none", "block", "h"])
        self.assertEqual(list(self.desk.runs), [1])

    def tearDown(self):
        """The next run's number is as it was, and the run that waits goes on."""
        self.assertEqual(self.desk.say("on 1 10"), "done 17")
        self.assertEqual(self.desk.say("run f 9 3"), "held 2 ask 3")
        self.assertEqual(self.desk.say("on 2 1"), "done 4")


class Rows(RefusalCase):
    def test_unknown_words(self):
        self.refuses(NoRow, "", " ", "  ", "f", "say f", "Run f 9 7", "RUN f 9 7", "puts (def f () 1)", "rows f", "\n")
        self.refuses(NoRow, "(def f () 1)", "put(def f () 1)", "put\n(def f () 1)", "put\t(def f () 1)", "held 1 ask 7")

    def test_words_lacking(self):
        self.refuses(NoRow, "put", "row", "lack", "run", "run f", "on")
        self.refuses(NoRow, "on 1", "code", "code f", "code f 9", "code f /")
        self.refuses(NoRow, "code f 9 7", "code f 9 7 8", "code /", "code 9 /")

    def test_words_too_many(self):
        self.refuses(NoRow, "row f f", "row f /", "on 1 2 3", "last f")
        self.refuses(NoRow, "last 1", "code f 9 7 / 1 / 2", "code f 9 / 7 /")
        self.refuses(NoRow, "run f 9 7 /", "run f 9 / 7", "lack f /", "code f / 9 /")

    def test_words_in_another_order(self):
        self.refuses(NoRow, "run 9 f 7", "code 9 f 7 /", "code / f 9 7", "code f / 9 7", "on f 1", "9 run f 7")

    def test_two_blanks(self):
        self.refuses(NoRow, "row  f", "run f  9 7", "run f 9  7", "on 1  2")
        self.refuses(NoRow, "lack f  ask", "code f 9  7 /", "code f 9 7  /")
        self.refuses(NoRow, "code f 9 7 /  1", "run  f 9 7", "lack  f")

    def test_a_blank_at_an_end(self):
        for row in ("row f", "run f 9 7", "on 1 2", "lack f", "lack f ask", "code f 9 7 /", "code f 9 7 / 1", "last"):
            self.refuses(NoRow, row + " ", " " + row, row + "\n", "\n" + row, row + "\t")
        self.refuses(NoRow, " put (def f () 1)")

    def test_other_signs_between_the_words(self):
        self.refuses(NoRow, "row\tf", "run f\n9 7", "run f 9\t7", "on 1\n2", "run f 9,7", "run\nf 9 7")

    def test_names_that_are_none(self):
        for name in ("F", "f1", "abcdefghi", "def", "go", "on", "end", "f_", "/", "-", "(f)", "7", "f)"):
            self.refuses(NoRow, f"row {name}", f"lack {name}", f"lack f {name}", f"lack f ask {name}")
            self.refuses(NoRow, f"run {name} 9 7", f"code {name} 9 7 /")

    def test_numbers_that_are_none(self):
        bad = ("00", "07", "-07", "-0", "+7", "--7", "-", "7-", "1" * 19, "-" + "1" * 19, "0x7", "7.0", "1e3", "1_0")
        for number in bad + ("x", "", "7 ", "\u0667", "\u00b2"):
            self.refuses(NoRow, f"run f 9 {number}", f"on 1 {number}", f"code f 9 {number} /", f"code f 9 7 / {number}")
            self.refuses(NoRow, f"code f 9 7 / 1 {number}")

    def test_bounds_that_are_none(self):
        for turns in ("2001", "9999", "10000", "02000", "00", "05", "-1", "-0", "+5", "x", "", "1.0", "20000", "/"):
            self.refuses(NoRow, f"run f {turns} 7", f"code f {turns} 7 /")

    def test_numbers_of_runs_that_are_none(self):
        for number in ("01", "00001", "10000", "-1", "-0", "+1", "x", "", "1.0", "f"):
            self.refuses(NoRow, f"on {number} 7")


class Refusals(RefusalCase):
    def test_no_text(self):
        self.refuses(NoText, "put f", "put (def f () 1", "put (def f () 1))")
        self.refuses(NoText, "put (def f ())", "put (def F () 1)", "put ()")
        self.refuses(NoText, "put (def f () 007)", "put (def f ()\t1)", "put 5", "put (def g () 1) x")

    def test_no_text_ahead_of_no_name(self):
        self.refuses(NoText, "put (def g () 1) (def g () 2) (def", "put (def g () (call z)) (")

    def test_two_of_the_texts_items_of_one_name(self):
        self.refuses(NoName, "put (def g () 1) (def g () 2)", "put (def g () 1) (handler g (end x s x))")
        self.refuses(NoName, "put (def f () 1) (def f (x) (do ask 2))", "put (def none () 2) (def none () 1)")
        # Ahead of what check refuses.
        self.refuses(NoName, "put (def g () (call none 1)) (def i () 1) (def i () 2)")

    def test_as_check_refuses_the_whole(self):
        self.refuses(NoName, "put (def g () x)", "put (def g () (call z))", "put (def g () (handle f 0 1))")
        self.refuses(NoCount, "put (def g () (call f))", "put (def g () (hand f f 1))")
        self.refuses(NoGo, "put (def g () (go 1 2))", "put (handler i (end x s (handle h 0 x)))")

    def test_items_that_others_need_put_anew(self):
        self.desk.say("put (def g () (call none))")
        for kind, text in ((NoCount, "(def none (x) 1)"), (NoName, "(handler none (end x s x))")):
            with self.assertRaises(kind):
                self.desk.say("put " + text)
            self.assertEqual(self.desk.say("row g"), "/")
        self.desk = Desk()
        for row in ("put " + PROGRAM, "run f 9 7"):
            self.desk.say(row)

    def test_the_first_thing_that_is_wrong_in_the_order_of_the_items(self):
        # f stands ahead of the new one, though it is written behind it.
        self.refuses(NoName, "put (def g () (call f)) (def f (x) (+ y (do ask x)))")
        self.refuses(NoCount, "put (def g () y) (def f (x) (call none 1))")

    def test_names_that_stand_for_nothing(self):
        self.refuses(NoName, "row z", "lack z", "lack z ask", "run z 9")
        self.refuses(NoName, "run z 9 1 2 3", "code z 9 /", "code z 9 1 2 / 3")
        self.refuses(NoName, "row ask", "row x", "row p")

    def test_those_that_have_a_block_or_are_handlers(self):
        for name in ("block", "h"):
            self.refuses(NoName, f"lack {name}", f"lack {name} ask", f"run {name} 9", f"run {name} 9 1")
            self.refuses(NoName, f"code {name} 9 /", f"code {name} 9 1 / 2")

    def test_counts(self):
        self.refuses(NoCount, "run f 9", "run f 9 1 2", "run none 9 1")
        self.refuses(NoCount, "code f 9 /", "code f 9 / 1", "code f 9 1 2 / 3")
        self.refuses(NoCount, "code none 9 1 /", "run f 0", "code f 0 /")

    def test_no_hold(self):
        self.refuses(NoHold, "on 0 5", "on 2 5", "on 9999 5", "on 2001 -5")

    def test_no_row_goes_first(self):
        self.refuses(NoRow, "run z 9999 1", "run z 9 01", "run h 9 -0", "code z 9 1", "on 5 01", "lack z Z", "row z z")

    def test_runs_of_other_ends_do_not_wait(self):
        self.assertEqual(self.desk.say("run none 9"), "done 1")
        self.assertEqual(self.desk.say("run f 0 7"), "spent")
        with self.assertRaises(NoHold):
            self.desk.say("on 2 5")


if __name__ == "__main__":
    unittest.main()
