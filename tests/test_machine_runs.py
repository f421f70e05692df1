"""Points 16 to 19 and 25: the run of code comes to the same end, record and turns as that of trees."""

import copy
import random
import unittest

from deedwright.checks import check
from deedwright.code import code_of
from deedwright.machine import run_code
from deedwright.reader import read
from deedwright.walk import run
from helper import KINDS, LIVELY, Maker, RunCase, all_clauses, second_run_code


class Runs(RunCase):
    """The tests of the runs of trees ask the machine, too; here is what is its alone."""

    def test_what_is_told(self):
        code = code_of(read("(def f (x) (+ x (do a x)))"), "f")
        self.assertEqual(run_code(code, [4], [3], 50), (("done", 7), [("do", "a", 4)], 1, 0))
        self.assertEqual(run_code(code, [4], [], 50), (("asks", "a", 4), [("do", "a", 4)], 1, 0))
        self.assertEqual(run_code(code, [4], [3], 0), (("spent",), [], 0, 0))
        self.assertEqual(run_code(code, [4], [10**18], 50), (("great",), [("do", "a", 4)], 1, 0))
        self.assertEqual([type(value) for value in run_code(code, [4], [3], 50)], [tuple, list, int, int])

    def test_many_deeds_by_hand(self):
        text = "(def f () (+ (do e 1) (+ (do d 2) (+ (do c 3) (+ (do b 4) (do a 5))))))"
        record = [("do", deed, number) for deed, number in zip("edcba", range(1, 6))]
        self.ends(text, ("done", 11111), answers=[1, 10, 100, 1000, 10000], record=record, used=5)

    def test_deeds_answered_further_out_in_a_jumps_clause(self):
        # The clause of i is a jump, on top of all that i holds, and asks o, that has a jump too.
        text = (
            "(def f () (handle o 3 (handle i 5 (+ (do a 1) (do a 2)))))"
            "(handler i (on a x s (go (do a (* x 10)) (+ s 1))) (end x s (+ x (* 100 s))))"
            "(handler o (on a x s (go (+ x s) (* s 2))) (end x s (+ x (* 10000 s))))"
        )
        record = [("do", "a", number) for number in (1, 10, 2, 20)]
        self.ends(text, ("done", 13 + 26 + 700 + 120000), record=record, used=8)

    def test_a_handle_in_a_jumps_clause(self):
        # k stands above o, i and all that these hold; what it is asked further out is known to it.
        text = (
            "(def f () (handle o 3 (handle i 5 (+ (do a 1) (do b 2)))))"
            "(handler i (on a x s (let y (handle k 7 (+ (do c x) (do b 1))) (go y s))) (end x s x))"
            "(handler k (on c x s (+ (go (do b 50) s) (go 0 s))) (end x s (+ x s)))"
            "(handler o (on b x s (go (* x s) (+ s 1))) (end x s (+ x (* 10000 s))))"
        )
        # c is answered by 150 (o keeps 4), then b by 4 (5): 161; then by 0, b by 5 (6): 12; b by 12 (7).
        self.ends(text, ("done", 161 + 12 + 12 + 70000))

    def test_a_jumps_clause_that_is_taken_off_and_put_on_twice(self):
        text = (
            "(def f () (guard 1 (handle o 3 (guard 2 (handle i 5 (guard 3 (+ 1000 (do a 1))))))))"
            "(handler i (on a x s (go (guard 4 (do b x)) (+ s 1))) (end x s (+ x (* 100 s))))"
            "(handler o (on b x s (+ (go 10 s) (go 20 s))) (end x s x))"
        )
        cleans = [("clean", number) for number in (4, 3, 2)]
        record = [("guard", 1), ("guard", 2), ("guard", 3), ("do", "a", 1), ("guard", 4), ("do", "b", 1)]
        self.ends(text, ("done", 1610 + 1620), record=record + cleans + cleans + [("clean", 1)])

    def test_a_jumps_clause_that_is_thrown_away(self):
        text = (
            "(def f () (handle o 3 (guard 2 (handle i 5 (guard 3 (do a 1))))))"
            "(handler i (on a x s (go (guard 4 (do b x)) s)) (end x s x)) (handler o (on b x s 9) (end x s x))"
        )
        record = [("guard", 2), ("guard", 3), ("do", "a", 1), ("guard", 4), ("do", "b", 1)]
        self.ends(text, ("done", 9), record=record + [("clean", number) for number in (4, 3, 2)], used=2)

    def test_the_kept_number_of_a_handler_that_was_put_on_twice(self):
        # i's kept number is set by a jump in the one going-on, and must be as it was in the other.
        text = (
            "(def f () (handle o 0 (handle i 5 (+ (do b 1) (+ (do a 1) (do a 1))))))"
            "(handler i (on a x s (go s (+ s 1))) (end x s (+ x (* 100 s))))"
            "(handler o (on b x s (+ (go 1000 s) (go 2000 s))) (end x s x))"
        )
        self.ends(text, ("done", 1711 + 2711))

    def test_a_jump_to_a_handler_that_others_stand_above(self):
        text = (
            "(def f () (handle o 1 (handle i 2 (handle k 3 (+ (do a 1) (do b 1))))))"
            "(handler o (on a x s (go s (+ s 10))) (on b x s (go s s)) (end x s (+ x (* 1000 s))))"
            "(handler i (end x s (+ x s))) (handler k (end x s (+ x s)))"
        )
        self.ends(text, ("done", 1 + 11 + 2 + 3 + 11000))


class Chance(unittest.TestCase):
    def agrees(self, program, f, chance, bounds):
        params = [item for item in program if item[1] == f][0][2]
        numbers = [chance.choice((-3, 0, 1, 2, 10**18)) for param in params]
        answers = [chance.choice((-1, 0, 1, 5)) for count in range(chance.randrange(6))]
        clauses = all_clauses(program)
        ends = []
        for turns in bounds:
            whole = run(program, f, list(numbers), list(answers), turns)
            for taken in (None, clauses, [pair for pair in clauses if chance.random() < 0.5]):
                with self.subTest(program=program, f=f, numbers=numbers, answers=answers, turns=turns, taken=taken):
                    code = code_of(program, f, taken)
                    told = run_code(code, list(numbers), list(answers), turns)
                    self.assertEqual(told[:3], whole)
                    self.assertEqual(told, second_run_code(code, numbers, answers, turns))
            ends.append((whole[0][0], told[3] > 0))
        return ends

    def test_any_programs(self):
        ends = {}
        for seed in range(150):
            chance = random.Random(seed)
            program = Maker(seed, depth=3 + seed % 3, blocks=seed % 2 == 0, kinds=KINDS).program()
            for f in [item[1] for item in program if item[0] == "def" and item[3] is None]:
                for end, copied in self.agrees(program, f, chance, [chance.choice((0, 1, 2, 5, 60))]):
                    ends[end] = ends.get(end, 0) + 1
        self.assertGreater(min(ends[end] for end in ("done", "asks", "spent", "great")), 8)

    def test_lively_programs(self):
        ends, copies = {}, 0
        for seed in range(200):
            chance = random.Random(seed)
            maker = Maker(seed, depth=3 + seed % 4, blocks=seed % 2 == 0, kinds=LIVELY, answers=0.8, goes=4)
            program = maker.handled()
            self.assertIsNone(check(program))
            for end, copied in self.agrees(program, "m", chance, [chance.randrange(20), 150]):
                ends[end] = ends.get(end, 0) + 1
                copies += copied
        self.assertGreater(min(ends[end] for end in ("done", "asks", "spent", "great")), 20)
        self.assertGreater(copies, 40)

    def test_every_bound_of_turns(self):
        for seed in range(12):
            chance = random.Random(seed)
            program = Maker(seed, depth=5, kinds=LIVELY, answers=0.9, goes=4).handled()
            self.agrees(program, "m", chance, range(25))


def reordered(code, chance):
    """The same code with its parts, but part 0, and its handlers in another order."""
    parts, handlers = code
    order = [0] + chance.sample(range(1, len(parts)), len(parts) - 1)
    handler_order = chance.sample(range(len(handlers)), len(handlers))
    new_part = {old: new for new, old in enumerate(order)}
    new_handler = {old: new for new, old in enumerate(handler_order)}

    def row_of(row):
        if row[0] == "call":
            return ("call", new_part[row[1]]) + row[2:]
        if row[0] == "under":
            return ("under", new_handler[row[1]], new_part[row[2]]) + row[3:]
        return row

    parts = tuple((parts[old][0], parts[old][1], tuple(map(row_of, parts[old][2]))) for old in order)
    made = []
    for old in handler_order:
        h, deeds, clauses, end = handlers[old]
        made.append((h, deeds, tuple((d, kind, new_part[part]) for d, kind, part in clauses), new_part[end]))
    return parts, tuple(made)


class Order(unittest.TestCase):
    def test_parts_and_handlers_in_another_order(self):
        changed = 0
        for seed in range(120):
            chance = random.Random(seed)
            maker = Maker(seed, depth=3 + seed % 3, handlers=3, kinds=LIVELY, answers=0.8, goes=4)
            program = maker.handled()
            taken = chance.choice((None, all_clauses(program)))
            code = code_of(program, "m", taken)
            expected = run_code(code, [3], [1, 2, 3], 100)
            for count in range(3):
                other = reordered(code, chance)
                changed += other != code
                with self.subTest(program=program, taken=taken):
                    self.assertEqual(run_code(other, [3], [1, 2, 3], 100), expected)
        self.assertGreater(changed, 250)


class Own(unittest.TestCase):
    program = read(
        "(def f (n) (handle h 1 (guard n (+ (do a n) (do b n)))))"
        "(handler h (on a x s (+ (go x s) (go 1 s))) (end x s x))"
    )

    def test_what_is_handed_in_is_not_changed(self):
        code, numbers, answers = code_of(self.program, "f"), [4], [5, 6, 7, 8]
        kept = copy.deepcopy(code)
        run_code(code, numbers, answers, 50)
        self.assertEqual((code, numbers, answers), (kept, [4], [5, 6, 7, 8]))

    def test_what_was_given_is_the_askers_own(self):
        code = code_of(self.program, "f")
        expected = run_code(code, [4], [5, 6], 50)
        run_code(code, [4], [5, 6], 50)[1].clear()
        self.assertEqual(run_code(code, [4], [5, 6], 50), expected)
        self.assertEqual(expected[0], ("done", 4 + 5 + 1 + 6))

    def test_the_same_again_behind_another_code(self):
        code = code_of(self.program, "f")
        expected = run_code(code, [4], [5], 50)
        run_code(code_of(read("(def f (n) (do z n))"), "f"), [4], [5], 50)
        run_code(code, [9], [1], 3)
        self.assertEqual(run_code(code, [4], [5], 50), expected)


if __name__ == "__main__":
    unittest.main()
