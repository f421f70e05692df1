"""Point 2: what is promised of the whole, over programs drawn by chance and some written by hand."""

import random
import unittest
from collections import Counter

from deedwright.checks import check
from deedwright.clauses import kind_of
from deedwright.code import code_of
from deedwright.desk import Desk
from deedwright.errors import Lacking
from deedwright.found import fits, open_rows, row_of
from deedwright.machine import run_code
from deedwright.moves import eased, may_turn, turned
from deedwright.reader import read
from deedwright.walk import begun, gone_on, run
from deedwright.ways import let_by, way
from deedwright.writer import shown
from helper import KINDS, LIVELY, Maker, TurnMaker, all_clauses, bodies, is_way, nested_parts

# By hand: a counter, choices, generators that hold one another, a search that is broken off, and an
# inner handler whose clauses do deeds of the outer one.
BY_HAND = (
    "(def main (n) (handle count 0 (call loop n))) (def loop (n) (if n (+ (do tick n) (call loop (- n 1))) (do out n)))"
    "(handler count (on tick x s (go s (+ s x))) (end x s (+ (* 1000 x) s)))",
    "(def main (n) (handle all 0 (guard 1 (+ (do pick n) (* 10 (+ (do pick 2) (do out 3)))))))"
    "(handler all (on pick x s (+ (go 0 s) (+ (go x s) (go 1 (+ s 1))))) (end x s (+ x s)))",
    "(def main (n) (handle outer 0 (guard 1 (handle inner 5 (guard 2 (+ (do ask n) (+ (do tell 3) (do ask 4))))))))"
    "(handler inner (on ask x s (+ (guard 3 (do tell x)) (go (do out s) (+ s 1)))) (end x s (do tell (+ x s))))"
    "(handler outer (on tell x s (if (< x 4) (+ (go x s) (go 0 (+ s 1))) (go (* 2 x) s))) (end x s (+ x s)))",
    "(def main (n) (handle stop 0 (hand each tests n)))"
    "(def each (n) p (if n (guard n (+ (call p n) (hand each p (- n 1)))) 0))"
    "(def tests (x) (if (< x 3) (do found x) (do out x))) (handler stop (on found x s (do out (* x 100))) (end x s 7))",
    "(def main (n) (handle h 1 (+ (do a n) (handle h 2 (+ (do a 1) (guard 5 (do b 2)))))))"
    "(handler h (on a x s (go (do b (* x s)) (+ s 1))) (on b x s (+ (go s s) (do a 3))) (end x s (+ x s)))",
)


def programs():
    """Programs, each with a function of one param to be run, and a source of chance."""
    for at, text in enumerate(BY_HAND):
        yield read(text), "main", random.Random(at)
    for seed in range(90):
        kinds = (KINDS, LIVELY)[seed % 3 > 0]
        maker = Maker(seed, depth=3 + seed % 4, blocks=seed % 2 == 0, kinds=kinds, answers=0.7, goes=1 + seed % 5)
        yield maker.handled(), "m", random.Random(seed)
    for seed in range(30):
        yield TurnMaker(seed, 3 + seed % 3).turnable(), "t", random.Random(seed)


def runs():
    """Runs: of each of the programs some."""
    for program, f, chance in programs():
        for count in range(3):
            numbers = [chance.choice((-3, 0, 1, 4, 10**18))]
            answers = [chance.choice((-1, 0, 1, 5)) for answer in range(chance.randrange(7))]
            yield program, f, numbers, answers, chance.choice((chance.randrange(30), 150))


def functions(program):
    """The names of the functions without a block."""
    return [item[1] for item in program if item[0] == "def" and item[3] is None]


class Rows(unittest.TestCase):
    def test_they_fit_and_every_deed_has_a_way(self):
        for program, f, chance in programs():
            with self.subTest(program=program):
                self.assertIsNone(check(program))
                self.assertTrue(fits(program, open_rows(program)))
                for f in functions(program):
                    row = row_of(program, f)
                    for deed in row:
                        self.assertTrue(is_way(program, ("def", f, None), deed, way(program, ("def", f, None), deed)))
                    self.assertEqual(let_by(program, f, row), row)
                    if row:
                        with self.assertRaises(Lacking):
                            let_by(program, f, row[1:])

    def test_none_less_fits(self):
        # With one deed less of its own, or let, an item's row doesn't hold what comes out.
        for program, f, chance in programs():
            table = open_rows(program)
            for name in table:
                for at in (0, 1):
                    for deed in table[name][at]:
                        fewer = {key: (list(own), list(lets)) for key, (own, lets) in table.items()}
                        fewer[name][at].remove(deed)
                        with self.subTest(program=program, name=name, deed=deed):
                            self.assertFalse(fits(program, fewer))

    def test_a_deed_done_by_hand_is_in_the_row(self):
        asked = 0
        for program, f, chance in programs():
            for f in functions(program):
                row = row_of(program, f)
                halt = begun(program, f, [2] * len([item for item in program if item[1] == f][0][2]), 100)
                for count in range(8):
                    if halt.end[0] != "asks":
                        break
                    asked += 1
                    self.assertIn(halt.end[1], row)
                    halt = gone_on(halt, chance.randrange(3))
        self.assertGreater(asked, 150)

    def test_a_function_with_an_empty_row_never_asks(self):
        empty = 0
        for program, f, chance in programs():
            # Under a handler that answers every deed and does none, nothing comes out of the function.
            deeds = sorted({deed for own, lets in open_rows(program).values() for deed in own})
            clauses = tuple((deed, "x", "s", ("go", ("var", "x"), ("var", "s"))) for deed in deeds)
            every = ("handler", "every", clauses, ("x", "s", ("var", "x")))
            body = ("handle", "every", ("num", 0), ("call", f, None, (("var", "x"),)))
            whole = program + (every, ("def", "whole", ("x",), None, body))
            self.assertIsNone(check(whole))
            self.assertEqual(row_of(whole, "whole"), [])
            for number in (0, 1, 5):
                end = run(whole, "whole", [number], [], 150)[0]
                self.assertNotEqual(end[0], "asks")
                empty += end[0] == "done"
        self.assertGreater(empty, 40)


class Code(unittest.TestCase):
    def test_the_same_end_record_and_turns_whichever_clauses_are_jumps(self):
        for program, f, numbers, answers, turns in runs():
            whole = run(program, f, numbers, answers, turns)
            clauses = all_clauses(program)
            for taken in [None, clauses] + [[pair] for pair in clauses]:
                with self.subTest(program=program, numbers=numbers, answers=answers, turns=turns, taken=taken):
                    self.assertEqual(run_code(code_of(program, f, taken), numbers, answers, turns)[:3], whole)

    def test_frames_are_copied_only_where_a_clause_goes_on_often(self):
        copied = 0
        for program, f, numbers, answers, turns in runs():
            bodies = [clause[3] for item in program if item[0] == "handler" for clause in item[2]]
            for taken in (None, all_clauses(program)):
                count = run_code(code_of(program, f, taken), numbers, answers, turns)[3]
                if "many" not in [kind_of(body) for body in bodies]:
                    self.assertEqual(count, 0)
                copied += count > 0
        self.assertGreater(copied, 30)


class Guards(unittest.TestCase):
    def test_each_is_cleaned_once_for_each_way_out(self):
        once = often = 0
        for program, f, numbers, answers, turns in runs():
            end, record, used = run(program, f, numbers, answers, turns)
            guards = Counter(row[1] for row in record if row[0] == "guard")
            cleans = Counter(row[1] for row in record if row[0] == "clean")
            kinds = [kind_of(clause[3]) for item in program if item[0] == "handler" for clause in item[2]]
            with self.subTest(program=program, numbers=numbers, answers=answers, turns=turns):
                self.assertFalse(set(cleans) - set(guards))
                if end[0] == "done" and "many" not in kinds:
                    # Without a going-on behind another one there is one way out of each.
                    self.assertEqual(cleans, guards)
                    once += sum(guards.values()) > 0
                elif end[0] == "done":
                    self.assertFalse(guards - cleans)
                    often += sum(guards.values()) > 0
                elif "many" not in kinds:
                    self.assertFalse(cleans - guards)
        self.assertGreater(min(once, often), 15)


class Moves(unittest.TestCase):
    def test_turned_and_eased(self):
        turns_made = eases_made = 0
        for program, f, numbers, answers, turns in runs():
            whole = run(program, f, numbers, answers, turns)
            made = [eased(program)]
            eases_made += made[0] != program
            handlers = [item[1] for item in program if item[0] == "handler"]
            for one in handlers:
                for other in handlers:
                    if may_turn(program, one, other):
                        made.append(turned(program, one, other))
                        turns_made += 1
            for other in made:
                with self.subTest(program=program, numbers=numbers, answers=answers, turns=turns):
                    self.assertIsNone(check(other))
                    self.assertEqual(run(other, f, numbers, answers, turns), whole)
                    self.assertEqual(run_code(code_of(other, f), numbers, answers, turns)[:3], whole)
        self.assertGreater(eases_made, 60)
        self.assertGreater(turns_made, 50)


def large_program():
    """Twenty functions of eight params, each under a handler of eight clauses, with near to 2500 expressions."""
    letters = "abcdefghijklmnopqrst"
    params = tuple("abcdefgh")
    items = []
    for at, letter in enumerate(letters):
        deeds = ["d" + letter + other for other in params]
        body = ("num", 0)
        for param, deed in zip(params, deeds):
            body = ("op", "+", body, ("guard", ("var", param), ("do", deed, ("op", "-", ("var", param), ("num", at)))))
        if at + 1 < len(letters):
            args = tuple(("op", "+", ("var", param), ("num", 1)) for param in params)
            call = ("call", "f" + letters[at + 1], None, args)
            body = ("op", "+", ("handle", "h" + letter, ("num", at), call), body)
        items.append(("def", "f" + letter, params, None, body))
        # Each handler answers the deeds of the next function, every one in another way.
        answered = ["d" + letters[(at + 1) % len(letters)] + other for other in params]
        x, s = ("var", "x"), ("var", "s")
        ways = [("go", x, s), ("go", x, ("op", "+", s, ("num", 1))), ("op", "+", ("go", x, s), ("num", 1))]
        clauses = tuple((deed, "x", "s", ways[k % 3]) for k, deed in enumerate(answered))
        items.append(("handler", "h" + letter, clauses, ("x", "s", ("op", "+", x, s))))
    return tuple(items)


class Bounds(unittest.TestCase):
    def test_a_program_as_large_as_the_bounds_let(self):
        program = large_program()
        self.assertIsNone(check(program))
        self.assertEqual(len(program), 40)
        count = sum(len(list(nested_parts(body))) for item in program for body in bodies(item))
        self.assertGreater(count, 2200)
        self.assertLess(count, 2500)
        numbers = [-(10**6), -1, 0, 1, 2, 3, 10**6, 10**9]
        # The first function's eight deeds are answered by hand.
        self.assertEqual(len(row_of(program, "fa")), 8)
        whole = run(program, "fa", numbers, [1, 2, 3, 4, 5, 6, 7, 8], 2000)
        self.assertEqual((whole[0][0], whole[2]), ("done", 19 + 160 + 152))
        for taken in (None, all_clauses(program)):
            told = run_code(code_of(program, "fa", taken), numbers, [1, 2, 3, 4, 5, 6, 7, 8], 2000)
            self.assertEqual(told, whole + (0,))
        self.assertEqual(eased(program), program)
        handlers = [item[1] for item in program if item[0] == "handler"]
        self.assertFalse(any(may_turn(program, one, other) for one in handlers[:3] for other in handlers))


class ByHand(unittest.TestCase):
    def test_a_program_at_a_desk(self):
        for text in BY_HAND:
            program = read(text)
            desk = Desk()
            self.assertEqual(desk.say("put " + shown(program)), "ok")
            for number in (0, 2, 5):
                answers = [3, 1, 4, 1, 5, 9, 2, 6, 5, 3]
                end, record, used = run(program, "main", [number], answers, 300)
                words = " ".join(map(str, end))
                told = desk.say(f"code main 300 {number} / " + " ".join(map(str, answers)))
                self.assertEqual(told.split(" copied ")[0], words)
                self.assertEqual(desk.say("last"), "; ".join(" ".join(map(str, row)) for row in record))
                told = desk.say(f"run main 300 {number}")
                for answer in answers:
                    if not told.startswith("held"):
                        break
                    told = desk.say(f"on {told.split(' ')[1]} {answer}")
                self.assertEqual(told.replace("held " + told.split(" ")[1], "asks"), words)
                self.assertEqual(desk.say("last"), "; ".join(" ".join(map(str, row)) for row in record))


if __name__ == "__main__":
    unittest.main()
