"""Point 21: what a clause's body does with what it holds, and which of its goes are last."""

import unittest

from deedwright.clauses import kind_of, lasts
from deedwright.reader import read
from helper import KINDS, LIVELY, Maker, goes_in_order, second_kind, second_lasts

GO = "(go x s)"


def body_of(text):
    """The body of a clause, by its text."""
    return read(f"(handler h (on a x s {text}) (end x s x))")[0][2][0][3]


class Clauses(unittest.TestCase):
    def tells(self, text, kind, *expected):
        """expected has for each go whether it is last."""
        with self.subTest(text=text):
            body = body_of(text)
            self.assertEqual(kind_of(body), kind)
            self.assertEqual(repr(lasts(body)), repr(list(expected)))
            self.assertEqual((second_kind(body), second_lasts(body)), (kind, list(expected)))


class Never(Clauses):
    def test_no_go(self):
        for text in ("1", "x", "(+ x s)", "(let y x y)", "(if x s 1)", "(call f x)", "(call f)", "(hand f g x)"):
            self.tells(text, "never")
        for text in ("(do a x)", "(handle h x (do a s))", "(guard x s)"):
            self.tells(text, "never")


class Jumps(Clauses):
    def test_a_plain_go(self):
        self.tells(GO, "jump", True)
        self.tells("(go (do a (call f x)) (handle h 1 (guard 2 s)))", "jump", True)

    def test_lets_and_ifs_that_end_at_a_go(self):
        self.tells(f"(let y 1 {GO})", "jump", True)
        self.tells(f"(let y (do a 1) (let z 1 {GO}))", "jump", True)
        self.tells(f"(if x {GO} {GO})", "jump", True, True)
        self.tells(f"(if (do a 1) {GO} (let y 2 {GO}))", "jump", True, True)
        self.tells(f"(if x (if s {GO} (go 1 s)) (if 1 (go 2 s) (let y 3 (go y s))))", "jump", True, True, True, True)


class Others(Clauses):
    def test_a_go_in_one_branch_alone(self):
        self.tells(f"(if x {GO} 1)", "once", True)
        self.tells(f"(if x 1 {GO})", "once", True)
        self.tells(f"(if x {GO} (if s {GO} 1))", "once", True, True)
        self.tells(f"(if x {GO} (+ 1 {GO}))", "once", True, True)

    def test_in_what_a_lets_variable_stands_for(self):
        self.tells(f"(let y {GO} y)", "once", True)
        self.tells(f"(let y {GO} {GO})", "many", False, True)
        self.tells(f"(let y (if x {GO} 1) {GO})", "many", False, True)
        self.tells(f"(let y 1 (+ 1 {GO}))", "once", True)

    def test_in_what_an_if_asks(self):
        self.tells(f"(if {GO} 1 2)", "once", True)
        self.tells(f"(if {GO} {GO} 2)", "many", False, True)
        self.tells(f"(if {GO} 1 {GO})", "many", False, True)
        self.tells(f"(if {GO} {GO} {GO})", "many", False, True, True)

    def test_in_the_parts_of_a_go(self):
        self.tells(f"(go {GO} s)", "many", False, True)
        self.tells(f"(go x {GO})", "many", False, True)
        self.tells(f"(go {GO} {GO})", "many", False, False, True)
        self.tells(f"(go (go {GO} s) s)", "many", False, False, True)
        self.tells(f"(go (if x {GO} {GO}) s)", "many", False, False, True)

    def test_in_the_parts_of_an_op(self):
        self.tells(f"(+ {GO} 1)", "once", True)
        self.tells(f"(- 1 {GO})", "once", True)
        self.tells(f"(< {GO} {GO})", "many", False, True)
        self.tells(f"(* {GO} (+ {GO} {GO}))", "many", False, False, True)
        self.tells(f"(* (+ {GO} {GO}) 1)", "many", False, True)

    def test_in_the_parts_of_a_do_a_call_and_a_guard(self):
        self.tells(f"(do a {GO})", "once", True)
        self.tells(f"(call f {GO})", "once", True)
        self.tells(f"(call f 1 {GO} 2 {GO} 3)", "many", False, True)
        self.tells(f"(hand f g {GO} {GO} {GO})", "many", False, False, True)
        self.tells(f"(guard {GO} 1)", "once", True)
        self.tells(f"(guard 1 {GO})", "once", True)
        self.tells(f"(guard {GO} {GO})", "many", False, True)

    def test_in_the_s_of_a_handle(self):
        self.tells(f"(handle h {GO} (do a 1))", "once", True)
        self.tells(f"(handle h (+ {GO} {GO}) (do a 1))", "many", False, True)
        self.tells(f"(+ (handle h {GO} 1) {GO})", "many", False, True)

    def test_of_an_ifs_branches_neither_comes_behind_the_other(self):
        self.tells(f"(+ 1 (if x {GO} {GO}))", "once", True, True)
        self.tells(f"(+ (if x {GO} {GO}) 1)", "once", True, True)
        self.tells(f"(+ (if x {GO} {GO}) {GO})", "many", False, False, True)
        self.tells(f"(+ (if x {GO} 1) {GO})", "many", False, True)
        self.tells(f"(if x (+ {GO} {GO}) {GO})", "many", False, True, True)
        self.tells(f"(if x {GO} (+ {GO} {GO}))", "many", True, False, True)

    def test_whatever_the_numbers_tell(self):
        self.tells(f"(if 0 {GO} 1)", "once", True)
        self.tells(f"(+ {GO} (if 0 {GO} 1))", "many", False, True)

    def test_the_order_is_that_of_the_rows(self):
        # A go stands behind the goes of its own parts, else from left to right.
        self.tells(f"(if x (go {GO} s) (+ 1 {GO}))", "many", False, True, True)
        self.tells(f"(if x {GO} (go {GO} s))", "many", True, False, True)
        self.tells(f"(if (let y {GO} 1) (if s (go 1 {GO}) 2) {GO})", "many", False, False, True, True)

    def test_a_let_or_an_if_with_a_go_ahead_is_no_jump(self):
        self.tells(f"(let y {GO} (let z 1 {GO}))", "many", False, True)
        self.tells(f"(let z 1 (if {GO} {GO} {GO}))", "many", False, True, True)

    def test_a_guard_an_op_or_a_call_round_a_go_is_no_jump(self):
        self.tells(f"(if x {GO} (guard 1 {GO}))", "once", True, True)
        self.tells(f"(let y 1 (call f {GO}))", "once", True)


class Whole(unittest.TestCase):
    def test_clauses_drawn_by_chance(self):
        kinds = {}
        for seed in range(700):
            maker = Maker(seed, depth=3 + seed % 3, kinds=(KINDS, LIVELY)[seed % 2], goes=1 + seed % 4)
            for count in range(3):
                body = maker.body(("x", "s"), None, "clause", maker.depth)
                # The ways through a body become too many for its second writing.
                if len(goes_in_order(body)) > 8:
                    continue
                with self.subTest(body=body):
                    self.assertEqual(kind_of(body), second_kind(body))
                    self.assertEqual(lasts(body), second_lasts(body))
                kinds[kind_of(body)] = kinds.get(kind_of(body), 0) + 1
        self.assertGreater(min(kinds[kind] for kind in ("never", "jump", "once", "many")), 40)

    def test_deeper_than_python_goes_by_itself(self):
        deep, lets, guards = ("go", ("var", "x"), ("var", "s")), ("go", ("var", "x"), ("var", "s")), ("var", "x")
        for count in range(1200):
            lets = ("let", "y", ("num", 1), lets)
        for count in range(300):
            deep = ("go", deep, ("var", "s"))
            guards = ("guard", ("num", 1), guards)
        self.assertEqual((kind_of(lets), lasts(lets)), ("jump", [True]))
        self.assertEqual((kind_of(deep), lasts(deep)), ("many", [False] * 300 + [True]))
        self.assertEqual((kind_of(guards), lasts(guards)), ("never", []))

    def test_the_list_is_the_askers_own(self):
        body = body_of(f"(+ {GO} {GO})")
        first = lasts(body)
        first.clear()
        self.assertEqual(lasts(body), [False, True])
        self.assertEqual(lasts(body_of("1")), [])
        lasts(body_of("1")).append(True)
        self.assertEqual(lasts(body_of("1")), [])


if __name__ == "__main__":
    unittest.main()
