"""Deeds and rows of them: point 9; bounds (8); nothing handed in is changed, nothing kept (1)."""

import itertools
import random
import unittest

from deedwright.bits import deeds_of, less, row_by, told
from deedwright.reader import read
from helper import Maker, all_deeds

H = "(handler h (end x s x))"
MANY = sorted({a + b + c for a in "abcdefg" for b in "abcdef" for c in "abcdef"})


class DeedsOf(unittest.TestCase):
    def has(self, text, deeds):
        with self.subTest(text=text[:200]):
            self.assertEqual(deeds_of(read(text)), deeds)
            self.assertIs(type(deeds_of(read(text))), list)

    def test_none(self):
        for text in ("", "(def f () 1)", "(def f (x) p (call p x))", H, "(def f () (handle h 1 2))" + H):
            self.has(text, [])

    def test_done_at_any_place(self):
        for body in ("(do d 1)", "(+ (do d 1) 1)", "(+ 1 (do d 1))", "(let x (do d 1) 1)", "(let x 1 (do d 1))",
                     "(if (do d 1) 1 1)", "(if 1 (do d 1) 1)", "(if 1 1 (do d 1))", "(call k (do d 1) 1)",
                     "(call k 1 (do d 1))", "(hand b g (do d 1))", "(handle h (do d 1) 1)", "(handle h 1 (do d 1))",
                     "(guard (do d 1) 1)", "(guard 1 (do d 1))", "(< (do d 1) (- (do d 2) (do d 3)))"):
            known = H + "(def k (x y) 1) (def b (x) p 1) (def g (x) 1)"
            self.has("(def f () " + body + ")" + known, ["d"])
            self.has("(def f () p " + body + ")" + known, ["d"])
            self.has(known + "(handler i (on c x s " + body + ") (end x s x))", ["c", "d"])
            if "handle" not in body:
                self.has(known + "(handler i (end x s " + body + "))", ["d"])

    def test_in_the_number_of_a_do(self):
        self.has("(def f () (do b (do a 1)))", ["a", "b"])
        self.has("(def f () (do a (do c (do b 1))))", ["a", "b", "c"])

    def test_in_a_go(self):
        self.has("(handler h (on d x s (go (do e 1) (do c 2))) (end x s x))", ["c", "d", "e"])
        self.has("(handler h (on d x s (go (go x (do b 1)) (go (do a 2) s))) (end x s x))", ["a", "b", "d"])

    def test_that_only_have_a_clause(self):
        self.has("(handler h (on d x s 1) (end x s x))", ["d"])
        self.has("(handler h (on z x s 1) (on d x s 1) (on m x s 1) (end x s x))", ["d", "m", "z"])
        self.has("(handler h (on d x s 1) (end x s x)) (handler i (on c x s 1) (end x s x))", ["c", "d"])

    def test_done_often_and_answered_too(self):
        self.has("(def f () (+ (do d 1) (handle h (do d 2) (do d 3)))) (def g () (do d 4))"
                 "(handler h (on d x s (do d x)) (end x s (do d s)))"
                 "(handler i (on d x s (go x s)) (end x s x))", ["d"])

    def test_sorted_over_all_items(self):
        self.has("(def f () (do z 1)) (handler h (on y x s (do b 1)) (end x s (do x 1))) (def g () (do a 1))",
                 ["a", "b", "x", "y", "z"])

    def test_one_the_beginning_of_another(self):
        names = ["a", "aa", "ab", "abc", "abcdefg", "abcdefgh", "abd", "b", "ba", "zzzzzzzz"]
        for turn in range(20):
            mixed = random.Random(turn).sample(names, len(names))
            self.has(" ".join("(def f () (do " + name + " 1))" for name in mixed), names)

    def test_names_of_other_things_are_none(self):
        self.has("(def f (x) p (let y (call p 1) (hand f p y)))" + H, [])

    def test_programs_by_chance(self):
        for seed in range(150):
            program = Maker(seed, deeds=("a", "ab", "b", "ba", "z"), depth=5).program()
            self.assertEqual(deeds_of(program), all_deeds(program))

    def test_many_and_deep(self):
        program = tuple(("def", "f", (), None, ("do", deed, ("num", 1))) for deed in reversed(MANY))
        self.assertEqual(deeds_of(program), MANY)
        tree = ("num", 1)
        for deed in MANY[:80]:
            tree = ("do", deed, tree)
        self.assertEqual(deeds_of((("def", "f", (), None, tree),)), MANY[:80])


class Rows(unittest.TestCase):
    DEEDS = ["a", "ab", "b", "c", "z"]

    def test_row_by(self):
        for some, row in (([], 0), (["a"], 1), (["ab"], 2), (["b"], 4), (["c"], 8), (["z"], 16), (["a", "b"], 5),
                          (["a", "ab", "b", "c", "z"], 31)):
            self.assertEqual(row_by(some, self.DEEDS), row)
            self.assertIs(type(row_by(some, self.DEEDS)), int)

    def test_row_by_in_any_order_and_twice(self):
        for some in itertools.permutations(["a", "b", "z"]):
            self.assertEqual(row_by(list(some), self.DEEDS), 21)
            self.assertEqual(row_by(list(some) * 2, self.DEEDS), 21)
        self.assertEqual(row_by(["ab"] * 300, self.DEEDS), 2)

    def test_told(self):
        for row, some in ((0, []), (1, ["a"]), (2, ["ab"]), (16, ["z"]), (21, ["a", "b", "z"]), (31, self.DEEDS)):
            self.assertEqual(told(row, self.DEEDS), some)
            self.assertIs(type(told(row, self.DEEDS)), list)

    def test_told_with_more_deeds_than_needed(self):
        self.assertEqual(told(1, ["a"]), ["a"])
        self.assertEqual(told(0, []), [])
        for more in range(6, 200):
            self.assertEqual(told(21, MANY[:more]), [MANY[0], MANY[2], MANY[4]])

    def test_they_undo_each_other(self):
        for row in range(32):
            self.assertEqual(row_by(told(row, self.DEEDS), self.DEEDS), row)
        for count in range(6):
            for some in itertools.combinations(self.DEEDS, count):
                self.assertEqual(told(row_by(list(some)[::-1] + list(some), self.DEEDS), self.DEEDS), list(some))

    def test_great_rows(self):
        deeds = MANY[:200]
        for row in (2**199, 2**200 - 1, 2**200 - 2, 2**100, 2**64, 2**63 + 1, (2**200 - 1) // 3):
            some = told(row, deeds)
            self.assertEqual(some, [deed for k, deed in enumerate(deeds) if row >> k & 1])
            self.assertEqual(row_by(some, deeds), row)
            self.assertEqual(row_by(some[::-1], MANY), row)
            self.assertEqual(told(row, MANY), some)
        chance = random.Random(9)
        for turn in range(50):
            row = chance.randrange(2**200)
            self.assertEqual(row_by(told(row, deeds), deeds), row)

    def test_less(self):
        for row, other, left in ((0, 0, 0), (5, 0, 5), (5, 1, 4), (5, 4, 1), (5, 5, 0), (5, 7, 0), (5, 2, 5),
                                 (0, 7, 0), (1, 2**199, 1), (2**200 - 1, 2**199, 2**199 - 1),
                                 (2**200 - 1, 2**200 - 1, 0), (2**199, 1, 2**199)):
            self.assertEqual(less(row, other), left)
            self.assertIs(type(less(row, other)), int)

    def test_less_of_all_small_rows(self):
        for row in range(16):
            for other in range(16):
                left = [k for k in range(4) if row >> k & 1 and not other >> k & 1]
                self.assertEqual(less(row, other), sum(2**k for k in left))


class TheAskersOwn(unittest.TestCase):
    def test_what_is_handed_in_stays(self):
        some, deeds = ["c", "a", "c"], ["a", "b", "c"]
        self.assertEqual(row_by(some, deeds), 5)
        self.assertEqual(told(5, deeds), ["a", "c"])
        self.assertEqual((some, deeds), (["c", "a", "c"], ["a", "b", "c"]))

    def test_what_is_given_is_new_each_time(self):
        program = read("(def f () (do b (do a 1)))")
        deeds = ["a", "b", "c"]
        for turn in range(3):
            given = deeds_of(program)
            self.assertEqual(given, ["a", "b"])
            given.append("z")
            given.reverse()
            for row, some in ((7, ["a", "b", "c"]), (0, [])):
                given = told(row, deeds)
                self.assertEqual(given, some)
                given.append("z")
            self.assertEqual(deeds, ["a", "b", "c"])

    def test_what_is_done_later_changes_nothing(self):
        some, deeds = ["a"], ["a", "b"]
        row, given = row_by(some, deeds), told(3, deeds)
        some.append("b")
        deeds.clear()
        self.assertEqual((row, given), (1, ["a", "b"]))

    def test_the_same_behind_another_program(self):
        for turn in range(3):
            self.assertEqual(deeds_of(read("(def f () (do b 1))")), ["b"])
            self.assertEqual(deeds_of(read("(def f () (do a 1))")), ["a"])
            self.assertEqual(deeds_of(()), [])
            self.assertEqual(row_by(["b"], ["b"]), 1)
            self.assertEqual(row_by(["b"], ["a", "b"]), 2)
            self.assertEqual(told(1, ["b"]), ["b"])
            self.assertEqual(told(1, ["a", "b"]), ["a"])


if __name__ == "__main__":
    unittest.main()
