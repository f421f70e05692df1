"""Point 23: the rows of each tree."""

import unittest

from deedwright.code import code_of
from deedwright.reader import read
from helper import code_fault, in_function


def parts_by_label(code):
    """The parts of code by their labels, where no two have the same."""
    found = {part[0]: part for part in code[0]}
    assert len(found) == len(code[0])
    return found


class RowsCase(unittest.TestCase):
    def code(self, text, f="f", taken=None):
        program = read(text)
        code = code_of(program, f, taken)
        self.assertIsNone(code_fault(program, f, taken, code))
        return code

    def makes(self, text, *rows, f="f"):
        """The rows of a function's own part."""
        with self.subTest(text=text):
            self.assertEqual(repr(self.code(text, f)[0][0][2]), repr(rows + (("give",),)))

    def makes_body(self, body, *rows):
        self.makes(in_function(body), *rows)


class Plain(RowsCase):
    def test_num_and_var(self):
        self.makes_body("0", ("num", 0))
        self.makes_body("999999999999999999", ("num", 999999999999999999))
        self.makes("(def f (x) x)", ("get", 0))
        self.makes("(def f (a b c d e f g h) h)", ("get", 7))

    def test_op(self):
        for sign in "+-*<":
            self.makes(f"(def f (x y) ({sign} y x))", ("get", 1), ("get", 0), ("op", sign))
        rows = (("num", 1), ("num", 2), ("op", "*"), ("num", 3), ("op", "-"))
        self.makes_body("(- (* 1 2) 3)", *rows)

    def test_let(self):
        self.makes("(def f (x) (let y 3 y))", ("num", 3), ("keep",), ("get", 1), ("drop",))
        self.makes_body("(let y 3 y)", ("num", 3), ("keep",), ("get", 0), ("drop",))

    def test_variables_are_numbered_with_the_hidden_ones(self):
        rows = (("get", 0), ("keep",), ("get", 1), ("keep",), ("get", 2), ("drop",), ("drop",))
        self.makes("(def f (x) (let x x (let x x x)))", *rows)
        rows = (("num", 1), ("keep",), ("num", 2), ("keep",), ("get", 1), ("get", 2), ("op", "+"), ("drop",), ("drop",))
        self.makes("(def f (x) (let y 1 (let x 2 (+ y x))))", *rows)

    def test_variables_behind_a_let_are_numbered_as_ahead_of_it(self):
        rows = (("num", 1), ("keep",), ("get", 1), ("drop",), ("num", 2), ("keep",), ("get", 1), ("drop",), ("op", "+"))
        self.makes("(def f (x) (+ (let y 1 y) (let z 2 z)))", *rows)
        rows = (("num", 1), ("keep",), ("get", 1), ("drop",), ("keep",), ("get", 0), ("drop",))
        self.makes("(def f (x) (let y (let x 1 x) x))", *rows)

    def test_guard(self):
        self.makes_body("(guard 1 2)", ("num", 1), ("guard",), ("num", 2), ("clean",))
        rows = (("num", 1), ("guard",), ("num", 2), ("guard",), ("num", 3), ("clean",), ("clean",))
        self.makes_body("(guard 1 (guard 2 3))", *rows)


class Ifs(RowsCase):
    def test_where_they_lead(self):
        self.makes_body("(if 1 2 3)", ("num", 1), ("unless", 4), ("num", 2), ("skip", 5), ("num", 3))

    def test_behind_other_rows(self):
        rows = (("num", 9), ("num", 1), ("unless", 5), ("num", 2), ("skip", 6), ("num", 3), ("op", "+"))
        self.makes_body("(+ 9 (if 1 2 3))", *rows)

    def test_within_one_another(self):
        asked = (("num", 1), ("unless", 4), ("num", 2), ("skip", 5), ("num", 3), ("unless", 12))
        # The skip of the first branch leads to the outer one's skip.
        first = (("num", 4), ("unless", 10), ("num", 5), ("skip", 11), ("num", 6), ("skip", 17))
        second = (("num", 7), ("unless", 16), ("num", 8), ("skip", 17), ("num", 9))
        self.makes_body("(if (if 1 2 3) (if 4 5 6) (if 7 8 9))", *asked, *first, *second)

    def test_one_behind_another(self):
        rows = (("num", 1), ("unless", 4), ("num", 2), ("skip", 5), ("num", 3))
        more = (("num", 4), ("unless", 9), ("num", 5), ("skip", 10), ("num", 6), ("op", "*"))
        self.makes_body("(* (if 1 2 3) (if 4 5 6))", *rows, *more)


class Calls(RowsCase):
    def test_count(self):
        self.makes("(def f () (call g)) (def g () 1)", ("call", 1, 0, ()))
        numbers = tuple(("num", number) for number in range(8))
        text = "(def f () (call g 0 1 2 3 4 5 6 7)) (def g (a b c d e f g h) 1)"
        self.makes(text, *numbers, ("call", 1, 8, ()))

    def test_itself(self):
        self.makes("(def f (x) (call f x))", ("get", 0), ("call", 0, 1, ()))

    def test_picks(self):
        text = (
            "(def f () (+ (do b 1) (+ (call g) (+ (do e 2) (do a 3)))))"
            "(def g () (+ (do e 1) (+ (do c 2) (do a 3))))"
        )
        rows = self.code(text)[0][0][2]
        self.assertEqual(rows[1], ("do", 1))
        self.assertEqual(rows[2], ("call", 1, 0, (0, 2, 3)))
        self.assertEqual((rows[4], rows[6]), (("do", 3), ("do", 0)))

    def test_the_own_block_is_the_part_of_what_was_handed_on(self):
        text = (
            "(def f () (+ (hand g one 1) (hand g two 2))) (def g (n) p (+ (call p n) (do c 1)))"
            "(def one (x) (do a x)) (def two (x) (do d x))"
        )
        code = self.code(text)
        numbers = {part[0]: number for number, part in enumerate(code[0])}
        for name, deeds, picks, place in (("one", ("a", "c"), (0,), 1), ("two", ("c", "d"), (1,), 0)):
            label, own, rows = code[0][numbers[("def", "g", name)]]
            self.assertEqual(own, deeds)
            call = ("call", numbers[("def", name, None)], 1, picks)
            self.assertEqual(rows, (("get", 0), call, ("num", 1), ("do", place), ("op", "+"), ("give",)))
        calls = [row for row in code[0][0][2] if row[0] == "call"]
        # f does a, c and d.
        both = [numbers[("def", "g", "one")], numbers[("def", "g", "two")]]
        self.assertEqual(calls, [("call", both[0], 1, (0, 1)), ("call", both[1], 1, (1, 2))])

    def test_the_own_block_handed_further_on(self):
        text = (
            "(def f () (hand g one 1)) (def g (n) p (hand h p n)) (def h (n) q (call q n)) (def one (x) (do a x))"
        )
        code = self.code(text)
        labels = [part[0] for part in code[0]]
        expected = [("def", "f", None), ("def", "g", "one"), ("def", "h", "one"), ("def", "one", None)]
        self.assertEqual(sorted(labels, key=repr), sorted(expected, key=repr))
        rows = parts_by_label(code)[("def", "g", "one")][2]
        self.assertEqual(rows[1], ("call", labels.index(("def", "h", "one")), 1, (0,)))


class Handles(RowsCase):
    text = (
        "(def f (n) (+ (do d 1) (let k 3 (handle h n (+ (do a k) (+ (do b n) (do d 2)))))))"
        "(handler h (on b x s (go (do e x) s)) (end x s (+ (do c x) s)))"
    )

    def test_under(self):
        code = self.code(self.text)
        self.assertEqual(code[0][0][1], ("a", "c", "d", "e"))
        rows = code[0][0][2]
        body = [number for number, part in enumerate(code[0]) if part[0] == ("body", "h", None)][0]
        self.assertEqual(rows[:2], (("num", 1), ("do", 2)))
        under = ("under", 0, body, (1, 3), (0, -1, 2))
        self.assertEqual(rows[2:], (("num", 3), ("keep",), ("get", 0), under, ("drop",), ("op", "+"), ("give",)))

    def test_a_b_knows_what_its_handle_knows(self):
        part = parts_by_label(self.code(self.text))[("body", "h", None)]
        self.assertEqual(part[1], ("a", "b", "d"))
        rows = (("get", 1), ("do", 0), ("get", 0), ("do", 1), ("num", 2), ("do", 2), ("op", "+"), ("op", "+"))
        self.assertEqual(part[2], rows + (("give",),))

    def test_a_b_may_hide_and_be_hidden(self):
        text = "(def f (x) (let x 1 (handle h x (let x 2 x)))) (handler h (end x s (let x s x)))"
        parts = parts_by_label(self.code(text))
        self.assertEqual(parts[("body", "h", None)][2], (("num", 2), ("keep",), ("get", 2), ("drop",), ("give",)))
        self.assertEqual(parts[("end", "h", None)][2], (("get", 1), ("keep",), ("get", 2), ("drop",), ("give",)))

    def test_an_end_and_a_clause_know_x_and_s(self):
        parts = parts_by_label(self.code(self.text))
        rows = (("get", 0), ("do", 1), ("get", 1), ("jump",), ("give",))
        self.assertEqual(parts[("on", "h", "b")][1:], (("c", "e"), rows))
        rows = (("get", 0), ("do", 0), ("get", 1), ("op", "+"), ("give",))
        self.assertEqual(parts[("end", "h", None)][1:], (("c", "e"), rows))

    def test_deeds_of_the_handlers_clauses_that_others_do_too(self):
        # a is done in the b, where h answers it, beside the handle, and in the clause.
        text = "(def f () (+ (do a 1) (handle h 2 (do a 3)))) (handler h (on a x s (do a x)) (end x s x))"
        code = self.code(text)
        under = [row for row in code[0][0][2] if row[0] == "under"][0]
        self.assertEqual(under[3:], ((0,), (-1,)))


class Goes(RowsCase):
    def goes(self, clause, *rows, taken=None):
        text = f"(def f () (handle h 1 (do a 2))) (handler h (on a x s {clause}) (end x s x))"
        part = parts_by_label(self.code(text, taken=taken))[("on", "h", "a")]
        found = [row for row in part[2] if row[0] in ("go", "jump")]
        self.assertEqual(repr(found), repr(list(rows)))
        return part[2]

    def test_a_go_that_is_last_and_one_that_is_not(self):
        rows = self.goes("(+ (go x s) (go 1 2))", ("go", False), ("go", True))
        whole = (("get", 0), ("get", 1), ("go", False), ("num", 1), ("num", 2), ("go", True), ("op", "+"), ("give",))
        self.assertEqual(rows, whole)
        self.goes("(+ 1 (go x s))", ("go", True))
        self.goes("(go (go x s) s)", ("go", False), ("go", True))
        self.goes("(if (go 1 s) (go 2 s) (go 3 s))", ("go", False), ("go", True), ("go", True))
        self.goes("(if x (go (go 1 s) s) 3)", ("go", False), ("go", True))

    def test_jumps(self):
        rows = self.goes("(if x (go 1 s) (let y x (go y s)))", ("jump",), ("jump",))
        whole = (
            ("get", 0),
            ("unless", 6),
            ("num", 1),
            ("get", 1),
            ("jump",),
            ("skip", 12),
            ("get", 0),
            ("keep",),
            ("get", 2),
            ("get", 1),
            ("jump",),
            ("drop",),
            ("give",),
        )
        self.assertEqual(rows, whole)

    def test_a_jump_that_is_to_be_taken(self):
        rows = self.goes("(go x s)", ("go", True), taken=[("h", "a")])
        self.assertEqual(rows, (("get", 0), ("get", 1), ("go", True), ("give",)))
        self.goes("(if x (go 1 s) (let y x (go y s)))", ("go", True), ("go", True), taken=[("h", "a")])

    def test_a_go_in_the_s_of_a_handle_is_the_clauses_own(self):
        text = (
            "(def f () (handle h 1 (do a 2))) (handler h (on a x s (handle k (go x s) (do a 3))) (end x s x))"
            "(handler k (end x s x))"
        )
        rows = parts_by_label(self.code(text))[("on", "h", "a")][2]
        self.assertEqual([row[0] for row in rows], ["get", "get", "go", "under", "give"])


class Give(RowsCase):
    def test_at_each_parts_end_and_nothing_behind_it(self):
        text = (
            "(def f () (if (do a 1) (handle h 1 (guard 2 (call g 3))) 4)) (def g (x) (let y x y))"
            "(handler h (on a x s (if x (go x s) (go 0 s))) (on b x s x) (end x s (if x s 1)))"
        )
        for label, deeds, rows in self.code(text)[0]:
            self.assertEqual([at for at, row in enumerate(rows) if row == ("give",)], [len(rows) - 1])


if __name__ == "__main__":
    unittest.main()
