"""Point 22: the parts and handlers of code, and point 1 of it."""

import copy
import random
import unittest

from deedwright import errors
from deedwright.checks import check
from deedwright.code import code_of
from deedwright.reader import read
from helper import KINDS, LIVELY, Maker, code_fault

HANDLED = read(
    "(def f (n) (+ (do d 1) (handle h n (+ (do a n) (do b n)))))"
    "(handler h (on b x s (go (do e x) s)) (on a x s (+ (go x s) (do c 1))) (on z x s 1) (end x s x))"
)


def labels(code):
    """The labels of all parts, sorted."""
    return sorted([part[0] for part in code[0]], key=repr)


def kinds(code, h):
    """The clauses of a handler in code: pairs of a deed and a kind."""
    return [clause[:2] for handler in code[1] for clause in handler[2] if handler[0] == h]


class PartsCase(unittest.TestCase):
    def code(self, program, f="f", taken=None):
        program = read(program) if isinstance(program, str) else program
        code = code_of(program, f, taken)
        self.assertIsNone(code_fault(program, f, taken, code))
        return code


class Parts(PartsCase):
    def test_part_0_is_the_functions(self):
        text = "(def g (x) 1) (def f () (call g 2)) (def h () (call f))"
        for f, expected in (("f", ["f", "g"]), ("g", ["g"]), ("h", ["h", "f", "g"])):
            code = self.code(text, f)
            self.assertEqual(code[0][0][0], ("def", f, None))
            self.assertEqual(labels(code), sorted([("def", name, None) for name in expected], key=repr))
            self.assertEqual(code[1], ())

    def test_labels(self):
        expected = [("def", "f", None), ("body", "h", None), ("end", "h", None)]
        expected += [("on", "h", "a"), ("on", "h", "b"), ("on", "h", "z")]
        self.assertEqual(labels(self.code(HANDLED)), sorted(expected, key=repr))

    def test_one_part_for_a_function_called_often(self):
        self.assertEqual(len(self.code("(def f () (+ (call g) (+ (call g) (call f)))) (def g () (call g))")[0]), 2)

    def test_one_part_for_each_function_that_is_handed_on(self):
        text = (
            "(def f () (+ (hand g a 1) (+ (hand g b 2) (hand g a 3)))) (def g (n) p (handle h 0 (call p n)))"
            "(def a (x) x) (def b (x) x) (def c (x) x) (handler h (end x s x))"
        )
        expected = [("def", "f", None), ("def", "g", "a"), ("def", "g", "b"), ("def", "a", None), ("def", "b", None)]
        expected += [("body", "h", None), ("body", "h", None), ("end", "h", None)]
        self.assertEqual(labels(self.code(text)), sorted(expected, key=repr))

    def test_one_part_for_each_handle_though_they_are_alike(self):
        text = "(def f () (+ (handle h 0 1) (+ (handle h 0 1) (handle h 0 (handle h 0 1))))) (handler h (end x s x))"
        code = self.code(text)
        self.assertEqual(labels(code), [("body", "h", None)] * 4 + [("def", "f", None), ("end", "h", None)])
        self.assertEqual(len(code[1]), 1)

    def test_handles_in_clauses(self):
        text = (
            "(def f () (handle h 0 (do a 1))) (handler h (on a x s (handle k x (do b s))) (end x s x))"
            "(handler k (on b x s x) (end x s (call g))) (def g () (handle h 1 2))"
        )
        expected = [("def", "f", None), ("def", "g", None), ("body", "h", None), ("body", "h", None)]
        expected += [("body", "k", None), ("on", "h", "a"), ("end", "h", None), ("on", "k", "b"), ("end", "k", None)]
        code = self.code(text)
        self.assertEqual(labels(code), sorted(expected, key=repr))
        self.assertEqual(sorted(handler[0] for handler in code[1]), ["h", "k"])

    def test_no_more_than_can_be_come_to(self):
        text = (
            "(def f () (call g)) (def g () 1) (def i () (handle h 0 1)) (handler h (on a x s (call j)) (end x s x))"
            "(def j () (do b 2))"
        )
        self.assertEqual(labels(self.code(text)), [("def", "f", None), ("def", "g", None)])
        # By the rows, whatever the numbers tell, and whether a clause's deed is done or not.
        text = "(def f () (if 0 (call g) 1)) (def g () 1)"
        self.assertEqual(labels(self.code(text)), [("def", "f", None), ("def", "g", None)])
        text = "(def f () (handle h 0 1)) (handler h (on a x s (call g)) (end x s x)) (def g () 1)"
        self.assertIn(("def", "g", None), labels(self.code(text)))


class Deeds(PartsCase):
    def test_of_each_kind_of_part_and_of_handlers(self):
        code = self.code(HANDLED)
        deeds = {part[0]: part[1] for part in code[0]}
        self.assertEqual(deeds[("def", "f", None)], ("c", "d", "e"))
        self.assertEqual(deeds[("body", "h", None)], ("a", "b"))
        for label in (("on", "h", "a"), ("on", "h", "b"), ("on", "h", "z"), ("end", "h", None)):
            self.assertEqual(deeds[label], ("c", "e"))
        self.assertEqual([handler[:2] for handler in code[1]], [("h", ("c", "e"))])

    def test_of_a_b_with_the_blocks_row_put_in(self):
        text = (
            "(def f () (+ (hand g i 1) (hand g j 2))) (def g (n) p (handle h 0 (+ (do a 1) (call p n))))"
            "(def i (x) (do b x)) (def j (x) (do c x)) (handler h (on b x s x) (end x s x))"
        )
        code = self.code(text)
        deeds = {part[0]: part[1] for part in code[0] if part[0][0] == "def"}
        self.assertEqual(deeds[("def", "g", "i")], ("a",))
        self.assertEqual(deeds[("def", "g", "j")], ("a", "c"))
        self.assertEqual(sorted(part[1] for part in code[0] if part[0][0] == "body"), [("a", "b"), ("a", "c")])

    def test_of_a_b_in_a_clause(self):
        text = (
            "(def f () (handle h 0 (do a 1))) (handler h (on a x s (+ (do b 1) (handle k 0 (do c 2)))) (end x s x))"
            "(handler k (on c x s x) (end x s x))"
        )
        code = self.code(text)
        deeds = {part[0]: part[1] for part in code[0]}
        self.assertEqual(deeds[("body", "k", None)], ("c",))
        self.assertEqual(deeds[("on", "h", "a")], ("b",))

    def test_sorted_though_met_in_another_order(self):
        code = self.code("(def f () (+ (do c 1) (+ (do a 2) (do b 3))))")
        self.assertEqual(code[0][0][1], ("a", "b", "c"))

    def test_of_a_clause_that_does_none_of_its_handlers_deeds(self):
        text = "(def f () (handle h 0 (do a 1))) (handler h (on a x s x) (on b x s (do c 1)) (end x s x))"
        deeds = {part[0]: part[1] for part in self.code(text)[0]}
        self.assertEqual(deeds[("on", "h", "a")], ("c",))
        self.assertEqual(deeds[("end", "h", None)], ("c",))


class Handlers(PartsCase):
    def test_clauses_in_their_order(self):
        code = self.code(HANDLED)
        self.assertEqual(kinds(code, "h"), [("b", "jump"), ("a", "take"), ("z", "take")])

    def test_the_parts_of_clauses_and_end(self):
        code = self.code(HANDLED)
        h, deeds, clauses, end = code[1][0]
        self.assertEqual([code[0][clause[2]][0] for clause in clauses], [("on", "h", d) for d in "baz"])
        self.assertEqual(code[0][end][0], ("end", "h", None))

    def test_a_handler_without_clauses(self):
        code = self.code("(def f () (handle h 0 1)) (handler h (end x s x))")
        self.assertEqual(code[1][0][:3], ("h", (), ()))

    def test_kinds(self):
        text = "(def f () (handle h 0 1)) (handler h (on a x s %s) (end x s x))"
        for body in ("(go x s)", "(let y 1 (go y s))", "(if x (go 1 s) (go 2 s))"):
            self.assertEqual(kinds(self.code(text % body), "h"), [("a", "jump")])
        for body in ("x", "(+ 1 (go x s))", "(if x (go 1 s) 2)", "(go (go x s) s)", "(guard 1 (go x s))"):
            self.assertEqual(kinds(self.code(text % body), "h"), [("a", "take")])

    def test_taken(self):
        jumps = "(on a x s (go x s)) (on b x s (go x s)) (on c x s x)"
        text = f"(def f () (handle h 0 (handle k 0 1))) (handler h {jumps} (end x s x)) (handler k {jumps} (end x s x))"
        jump, take = ["jump", "jump", "take"], ["take", "take", "take"]
        for taken, h, k in (
            (None, jump, jump),
            ([], jump, jump),
            ((), jump, jump),
            ([("h", "a")], ["take", "jump", "take"], jump),
            ((("h", "a"), ("k", "b")), ["take", "jump", "take"], ["jump", "take", "take"]),
            ([("h", "b"), ("h", "a"), ("h", "b")], take, jump),
            ([("h", "c"), ("h", "z"), ("z", "a"), ("a", "h")], jump, jump),
        ):
            with self.subTest(taken=taken):
                code = self.code(text, taken=taken)
                self.assertEqual([kind for d, kind in kinds(code, "h")], h)
                self.assertEqual([kind for d, kind in kinds(code, "k")], k)


class Refusals(unittest.TestCase):
    def test_an_f_that_is_no_function_without_block(self):
        program = read("(def f () 1) (def g (x) p (call p x)) (handler h (on a x s x) (end x s x))")
        for f in ("z", "g", "h", "a", "x", "p"):
            for taken in (None, [("h", "a")]):
                with self.subTest(f=f):
                    with self.assertRaises(ValueError) as caught:
                        code_of(program, f, taken)
                    self.assertIs(type(caught.exception), errors.NoName)
        with self.assertRaises(errors.NoName):
            code_of((), "f")


def holds_tuples_alone(thing):
    if isinstance(thing, tuple):
        return all(holds_tuples_alone(part) for part in thing)
    return thing is None or type(thing) in (str, int, bool)


class Whole(PartsCase):
    def test_all_lists_in_it_are_tuples(self):
        code = self.code(HANDLED)
        self.assertTrue(holds_tuples_alone(code))
        self.assertEqual(len(code), 2)

    def test_programs_drawn_by_chance(self):
        parts = 0
        for seed in range(250):
            chance = random.Random(seed)
            maker = Maker(seed, depth=3 + seed % 3, kinds=(KINDS, LIVELY)[seed % 2], answers=0.6, goes=4)
            program = maker.handled()
            self.assertIsNone(check(program))
            pairs = [(item[1], clause[0]) for item in program if item[0] == "handler" for clause in item[2]]
            for f in [item[1] for item in program if item[0] == "def" and item[3] is None]:
                taken = chance.choice([None, pairs, [pair for pair in pairs if chance.random() < 0.5]])
                with self.subTest(program=program, f=f, taken=taken):
                    code = self.code(program, f, taken)
                    self.assertTrue(holds_tuples_alone(code))
                    parts += len(code[0])
        self.assertGreater(parts, 5000)

    def test_expressions_sixty_deep_and_beyond(self):
        for depth in (60, 1500):
            body = ("var", "x")
            for count in range(depth):
                within = ("let", "x", ("num", 2), body)
                body = ("if", ("num", 1), within, ("num", 3)) if count % 2 else ("do", "a", body)
            code = code_of((("def", "f", ("x",), None, body),), "f")
            self.assertEqual(len(code[0][0][2]), 1 + (depth // 2) * (1 + 7) + 1)

    def test_as_large_as_the_bounds_let(self):
        # Twenty functions with a block, which hand theirs and others on to one another.
        names = ["f" + letter for letter in "abcdefghijklmnopqrst"]
        others = ["k" + letter for letter in "abcdefghijklmnopqr"]
        items = [f"(def {name} (x) (do {name} x))" for name in others]
        for at, name in enumerate(names):
            after = names[(at + 1) % len(names)]
            body = f"(hand {after} p (handle h 1 (hand {after} {others[at % 18]} (call p x))))"
            items.append(f"(def {name} (x) p {body})")
        text = "".join(items) + "(handler h (on ka x s x) (end x s x)) (def f () (hand fa ka 1))"
        code = self.code(text)
        self.assertGreater(len(code[0]), 700)

    def test_what_is_handed_in_is_not_changed(self):
        program, taken = copy.deepcopy(HANDLED), [("h", "b"), ("z", "z")]
        code_of(program, "f", taken)
        self.assertEqual((program, taken), (HANDLED, [("h", "b"), ("z", "z")]))

    def test_the_same_again_and_behind_another_program(self):
        expected = code_of(HANDLED, "f")
        taken = [("h", "b")]
        other = code_of(HANDLED, "f", taken)
        self.assertNotEqual(expected, other)
        taken.clear()
        code_of(read("(def f (n) (handle h 1 n)) (handler h (on b x s 1) (end x s 2))"), "f")
        self.assertEqual(code_of(HANDLED, "f"), expected)
        self.assertEqual(code_of(HANDLED, "f", [("h", "b")]), other)


if __name__ == "__main__":
    unittest.main()
