"""The found table and the rows of items: points 12 and 13; bounds (8); the asker's own (1)."""

import unittest

from deedwright.checks import check
from deedwright.found import fits, open_rows, row_of
from deedwright.reader import read
from helper import Maker, all_deeds, all_tables, has_way, spots_of, table_fits, table_within

LETTERS = "abcdefghijklmnopqrstuvwxyz"
# Functions that are handed on, and one that they are handed to.
HANDED = "(def g (x) (do d x)) (def k (x) (do e x)) (def b (x) p (call p x))"


def rows(own="", lets=""):
    return (own.split(), lets.split())


class FoundCase(unittest.TestCase):
    def finds(self, text, **table):
        """Asks for the rows of the items that are named; the others are not looked at."""
        with self.subTest(text=text[:300]):
            program = read(text)
            self.assertIsNone(check(program))
            found = open_rows(program)
            self.assertEqual({name: found[name] for name in table}, table)
            self.assertTrue(table_fits(program, found))


class EachRowOfThePoint(FoundCase):
    def test_nothing_comes_out(self):
        for body in ("1", "x", "(+ x 1)", "(let y x y)", "(if x 1 2)", "(guard 1 x)", "(call f x)"):
            self.finds("(def f (x) " + body + ")", f=rows())

    def test_a_do(self):
        self.finds("(def f () (do d 1))", f=rows("d"))
        self.finds("(def f () (do d (do e 1)))", f=rows("d e"))
        self.finds("(def f () (do e (do d (do e 1))))", f=rows("d e"))

    def test_a_call_of_the_own_block(self):
        self.finds("(def f () p (call p 1)) (def g () (do d (do e 1)))", f=rows("", "d e"))
        self.finds("(def f () p (call p (do d 1))) (def g () (do e 1))", f=rows("d", "e"))
        self.finds("(def f () p (+ (call p 1) (do d (do e 1))))", f=rows("d e"))
        self.finds("(def f () p 1) (def g () (do d 1))", f=rows())
        self.finds("(def f () p (call p 1))", f=rows())
        # A deed that is in a clause alone is one of all deeds too.
        self.finds("(def f () p (call p 1)) (handler h (on d x s 1) (end x s x))", f=rows("", "d"))

    def test_a_call_of_a_function_without_block(self):
        self.finds("(def f () (call g (do e 1)))" + HANDED, f=rows("d e"))
        self.finds("(def f () (call g 1))" + HANDED, f=rows("d"))
        self.finds("(def f () p (call g (call p 1)))" + HANDED, f=rows("d", "e"))

    def test_a_call_that_hands_on_a_function(self):
        self.finds("(def f () (hand b g 1))" + HANDED, f=rows("d"), b=rows("", "d e"))
        self.finds("(def f () (hand b k 1))" + HANDED, f=rows("e"))
        self.finds("(def f () (+ (hand b k 1) (hand b g 1)))" + HANDED, f=rows("d e"))
        self.finds("(def f () (hand b k (do c 1)))" + HANDED, f=rows("c e"))
        self.finds("(def f () (hand i g)) (def i () p (do e 1))" + HANDED, f=rows("e"), i=rows("e"))
        self.finds("(def f () (hand i g)) (def i () p 1)" + HANDED, f=rows(), i=rows())
        # The own block of the function that it stands in has nothing to do with it.
        self.finds("(def f () p (hand b g 1))" + HANDED, f=rows("d"))

    def test_a_call_that_hands_on_the_own_block(self):
        self.finds("(def f () p (hand b p 1))" + HANDED, f=rows("", "d e"))
        self.finds("(def f () p (hand i p)) (def i () q (do c (call q 1)))" + HANDED, f=rows("c", "d e"))
        self.finds("(def f () p (hand i p)) (def i () q 1)" + HANDED, f=rows())
        self.finds("(def f () p (hand i p)) (def i () q (hand b g 1))" + HANDED, f=rows("d"), i=rows("d"))
        self.finds("(def f () p (hand i p)) (def i () q (handle h 1 (call q 1))) (handler h (on d x s 1) (end x s x))"
                   + HANDED, f=rows("", "e"), i=rows("", "e"))

    def test_a_handle(self):
        handler = "(handler h (on d x s 1) (end x s x))"
        self.finds("(def f () (handle h 1 (do d 1)))" + handler, f=rows(), h=rows())
        self.finds("(def f () (handle h 1 (do e 1)))" + handler, f=rows("e"), h=rows())
        self.finds("(def f () (handle h 1 (do d (do e 1))))" + handler, f=rows("e"))
        self.finds("(def f () (handle h 1 (call g 1)))" + handler + HANDED, f=rows(), g=rows("d"))
        self.finds("(def f () (handle h 1 (+ (hand b g 1) (hand b k 2))))" + handler + HANDED, f=rows("e"))
        self.finds("(def f () p (handle h 1 (call p 1)))" + handler + HANDED, f=rows("", "e"))
        self.finds("(def f () p (handle h 1 (hand b p (do e 1))))" + handler + HANDED, f=rows("e", ""))

    def test_the_s_of_a_handle_is_not_under_it(self):
        handler = "(handler h (on d x s 1) (end x s x))"
        self.finds("(def f () (handle h (do d 1) 1))" + handler, f=rows("d"))
        self.finds("(def f () (handle h (do d 1) (do d 1)))" + handler, f=rows("d"))
        self.finds("(def f () p (handle h (call p 1) (call p 1)))" + handler + HANDED, f=rows("", "d e"))
        self.finds("(def f () (handle h 1 (handle h (do d 1) 1)))" + handler, f=rows())
        self.finds("(def f () (handle h (handle h 1 (do d 1)) 1))" + handler, f=rows())

    def test_the_own_deeds_of_a_handler_are_more(self):
        handler = "(handler h (on d x s (do e 1)) (end x s (do c 1)))"
        self.finds("(def f () (handle h 1 1))" + handler, f=rows("c e"), h=rows("c e"))
        self.finds("(def f () (handle h 1 (do d 1)))" + handler, f=rows("c e"))
        self.finds("(def f () (handle h 1 (do a 1)))" + handler, f=rows("a c e"))

    def test_a_clause_that_does_the_deed_it_answers(self):
        self.finds("(def f () (handle h 1 1)) (handler h (on d x s (do d x)) (end x s x))", f=rows("d"), h=rows("d"))
        self.finds("(def f () (handle h 1 1)) (handler h (on d x s 1) (end x s (do d x)))", f=rows("d"), h=rows("d"))
        self.finds("(def f () (handle i 1 (handle h 1 (do d 1)))) (handler h (on d x s (do d x)) (end x s x))"
                   "(handler i (on d x s 1) (end x s x))", f=rows(), h=rows("d"), i=rows())

    def test_handles_within_handles(self):
        handlers = "(handler h (on d x s 1) (end x s x)) (handler i (on e x s 1) (end x s x))"
        body = "(+ (do c 1) (do d (do e 1)))"
        self.finds("(def f () (handle h 1 (handle i 1 " + body + ")))" + handlers, f=rows("c"))
        self.finds("(def f () (handle h 1 (handle h 1 " + body + ")))" + handlers, f=rows("c e"))
        self.finds("(def f () (handle h 1 (handle i " + body + " 1)))" + handlers, f=rows("c e"))
        self.finds("(def f () (handle h " + body + " (handle i 1 " + body + ")))" + handlers, f=rows("c d e"))

    def test_parts_of_all_other_forms(self):
        for body in ("(+ {0} 1)", "(+ 1 {0})", "(let y {0} 1)", "(let y 1 {0})", "(if {0} 1 1)", "(if 1 {0} 1)",
                     "(if 1 1 {0})", "(guard {0} 1)", "(guard 1 {0})", "(call two {0} 1)", "(call two 1 {0})",
                     "(hand b g {0})", "(call i {0})"):
            known = "(def two (x y) 1) (def b (x) p 1) (def g (x) 1) (def i (x) 1)"
            self.finds("(def f () " + body.format("(do d 1)") + ")" + known, f=rows("d"))
            self.finds("(handler h (on e x s " + body.format("(do d 1)") + ") (end x s x))" + known, h=rows("d"))
            self.finds("(handler h (end x s " + body.format("(do d 1)") + "))" + known, h=rows("d"))
        self.finds("(def f () p (call p (do d 1)))", f=rows("d"))
        for body in ("(go {0} s)", "(go x {0})", "(go (go {0} s) s)"):
            self.finds("(handler h (on e x s " + body.format("(do d 1)") + ") (end x s x))", h=rows("d"))

    def test_all_clauses_and_the_end(self):
        self.finds("(handler h (on a x s (do c 1)) (on b x s (call g)) (end x s (do e 1))) (def g () (do d 1))",
                   h=rows("c d e"))
        self.finds("(handler h (on a x s (go x s)) (end x s (call g))) (def g () (do d 1))", h=rows("d"))
        self.finds("(handler h (on a x s (handle i 1 (do d 1))) (end x s x))"
                   "(handler i (on d x s (do b 1)) (end x s x))", h=rows("b"), i=rows("b"))


class Rings(FoundCase):
    def test_a_function_that_calls_itself(self):
        self.finds("(def f (x) (if x (call f (do d x)) 1))", f=rows("d"))
        self.finds("(def f (x) p (if x (hand f p (- x 1)) (call p (do d 1)))) (def g (x) (do e x))", f=rows("d", "e"))
        self.finds("(def f (x) p (if x (hand f g (- x 1)) (call p 1))) (def g (x) (do e x)) (def k () (do d 1))",
                   f=rows("e", "d"))
        self.finds("(def f (x) p (if x (hand f g (- x 1)) 1)) (def g (x) (do e x))", f=rows())
        self.finds("(def f (x) p (hand f p x)) (def g () (do d 1))", f=rows())

    def test_a_ring(self):
        self.finds("(def f () (+ (do d 1) (call g))) (def g () (+ (do e 1) (call i))) (def i () (call f))"
                   "(def k () (do z 1))", f=rows("d e"), g=rows("d e"), i=rows("d e"), k=rows("z"))

    def test_a_ring_with_what_stands_beside_it(self):
        self.finds("(def a () (call b)) (def b () (+ (call c) (call d))) (def c () (call b)) (def d () (do x 1))"
                   "(def e () (call a))", a=rows("x"), b=rows("x"), c=rows("x"), d=rows("x"), e=rows("x"))

    def test_a_ring_with_blocks(self):
        self.finds("(def f (x) p (hand i p x)) (def i (x) q (+ (call q x) (hand f q x))) (def g (x) (do d x))"
                   "(def k (x) (hand f g x))", f=rows("", "d"), i=rows("", "d"), k=rows("d"))
        self.finds("(def f (x) p (hand i g x)) (def i (x) q (+ (call q x) (hand f q x))) (def g (x) (do d x))",
                   f=rows("d"), i=rows("d"))
        # What is handed on calls what it is handed to.
        self.finds("(def f (x) p (+ (call p x) (do e 1))) (def g (x) (hand f g x)) (def k (x) (do d x))",
                   f=rows("e", "d"), g=rows("e"))

    def test_a_ring_through_a_handler(self):
        self.finds("(def f () (handle h 1 (do d 1))) (handler h (on d x s (+ (do e 1) (call f))) (end x s x))",
                   f=rows("e"), h=rows("e"))
        self.finds("(handler h (on d x s (handle h 1 (do d (do e 1)))) (end x s x))", h=rows("e"))
        self.finds("(handler h (on d x s (handle h (do d 1) 1)) (end x s x))", h=rows("d"))
        self.finds("(handler h (on d x s 1) (end x s (call f))) (def f () (handle h (do d 1) (do e 1)))",
                   h=rows("d e"), f=rows("d e"))

    def test_a_ring_that_is_answered_on_the_way(self):
        self.finds("(def f () (+ (do d 1) (handle h 1 (call g)))) (def g () (+ (do e 1) (call f)))"
                   "(handler h (on d x s 1) (end x s x))", f=rows("d e"), g=rows("d e"))
        self.finds("(def f () (handle h 1 (call g))) (def g () (+ (do d 1) (call f)))"
                   "(handler h (on d x s 1) (end x s x))", f=rows(), g=rows("d"))


class TheTable(FoundCase):
    TEXT = ("(def main () (hand f g 1)) (handler h (on d x s (do e x)) (end x s x)) (def g (x) (do d x))"
            "(def f (x) p (handle h x (+ (call p x) (do c x))))")
    FOUND = {"main": rows("c e"), "h": rows("e"), "g": rows("d"), "f": rows("c e")}

    def test_items_in_any_order(self):
        program = read(self.TEXT)
        for turn in range(len(program)):
            turned = program[turn:] + program[:turn]
            for items in (turned, turned[::-1]):
                found = open_rows(items)
                self.assertEqual(found, self.FOUND)
                self.assertEqual(list(found), [item[1] for item in items])

    def test_the_kinds(self):
        found = open_rows(read(self.TEXT))
        self.assertIs(type(found), dict)
        for row in found.values():
            self.assertIs(type(row), tuple)
            self.assertEqual([type(part) for part in row], [list, list])

    def test_the_program_without_items(self):
        self.assertEqual(open_rows(()), {})
        self.assertIs(fits((), {}), True)

    def test_sorted_and_in_normal_form(self):
        for seed in range(100):
            program = Maker(seed, deeds=("b", "ba", "a", "ab")).program()
            for item in program:
                own, lets = open_rows(program)[item[1]]
                self.assertEqual((own, lets), (sorted(set(own)), sorted(set(lets))))
                self.assertFalse(set(own) & set(lets))
                if item[0] == "handler" or item[3] is None:
                    self.assertEqual(lets, [])

    def test_it_is_the_least_that_fits(self):
        tried = 0
        for seed in range(60):
            blocks = seed % 2 == 0
            program = Maker(seed, deeds=("a", "b"), functions=2 + (not blocks), handlers=1, depth=3,
                            blocks=blocks).program()
            found = open_rows(program)
            fitting = [table for table in all_tables(program) if table_fits(program, table)]
            tried += len(fitting)
            self.assertIn(found, fitting)
            for table in fitting:
                self.assertTrue(table_within(found, table))
        self.assertGreater(tried, 1000)


class Fits(FoundCase):
    CHAIN = "(def f () (call g)) (def g () (call k)) (def k () (do d 1)) (def z () (do e 1))"
    RING = "(def f () (call g)) (def g () (call k)) (def k () (+ (do d 1) (call f))) (def z () (do e 1))"
    BLOCKS = "(def f (x) p (hand i p x)) (def i (x) q (call q x)) (def g (x) (do d x)) (def k (x) (hand f g x))"

    def asks(self, text, changes, told):
        program = read(text)
        table = open_rows(program)
        table.update(changes)
        with self.subTest(text=text, changes=changes):
            self.assertIs(fits(program, table), told)
            self.assertIs(table_fits(program, table), told)

    def test_the_found_table(self):
        for text in (self.CHAIN, self.RING, self.BLOCKS, TheTable.TEXT, ""):
            self.asks(text, {}, True)

    def test_a_deed_more(self):
        self.asks(self.CHAIN, {"f": rows("d e")}, True)
        self.asks(self.CHAIN, {"f": rows("d e"), "g": rows("d e")}, True)
        self.asks(self.CHAIN, {"g": rows("d e")}, False)
        self.asks(self.CHAIN, {"z": rows("d e")}, True)
        self.asks(self.RING, {"f": rows("d e")}, False)
        self.asks(self.RING, {"f": rows("d e"), "g": rows("d e"), "k": rows("d e")}, True)
        self.asks(self.BLOCKS, {"f": rows("d"), "k": rows("d")}, True)
        self.asks(self.BLOCKS, {"i": rows("d")}, False)
        self.asks(self.BLOCKS, {"i": rows("d"), "f": rows("d")}, True)

    def test_a_deed_less(self):
        for text in (self.CHAIN, self.RING):
            for name in ("f", "g", "k"):
                self.asks(text, {name: rows()}, False)
            self.asks(text, {"f": rows(), "g": rows(), "k": rows()}, False)
            self.asks(text, {"z": rows()}, False)
        # A ring where nothing is done may have more, but where it has a deed all of it must.
        self.asks("(def f () (call g)) (def g () (call f)) (def k () (do d 1))", {"f": rows("d")}, False)
        self.asks("(def f () (call g)) (def g () (call f)) (def k () (do d 1))", {"f": rows("d"), "g": rows("d")}, True)

    def test_a_deed_less_in_a_lets(self):
        self.asks(self.BLOCKS, {"f": rows()}, False)
        self.asks(self.BLOCKS, {"i": rows()}, False)
        self.asks(self.BLOCKS, {"f": rows(), "k": rows()}, False)
        self.asks(self.BLOCKS, {"k": rows()}, False)
        self.asks(self.BLOCKS, {"g": rows()}, False)

    def test_a_let_in_the_place_of_an_own(self):
        self.asks("(def f () p (do d 1))", {"f": rows("", "d")}, False)
        self.asks("(def f () p (+ (call p 1) (do d 1)))", {"f": rows("", "d")}, False)

    def test_of_handlers(self):
        text = "(handler h (on d x s (do e x)) (end x s (do c x))) (def f () (handle h 1 (do d 1)))"
        self.asks(text, {"h": rows("c")}, False)
        self.asks(text, {"h": rows("e")}, False)
        self.asks(text, {"f": rows("c")}, False)
        self.asks(text, {"h": rows("c d e")}, False)
        self.asks(text, {"h": rows("c d e"), "f": rows("c d e")}, True)

    def test_the_order_of_the_keys(self):
        program = read(self.CHAIN)
        table = dict(reversed(open_rows(program).items()))
        self.assertIs(fits(program, table), True)
        table["f"] = rows()
        self.assertIs(fits(program, table), False)

    def test_all_deeds_everywhere(self):
        for text in (self.CHAIN, self.RING, self.BLOCKS, TheTable.TEXT):
            program = read(text)
            self.assertIs(fits(program, {item[1]: (all_deeds(program), []) for item in program}), True)
        for seed in range(60):
            program = Maker(seed).program()
            self.assertIs(fits(program, {item[1]: (all_deeds(program), []) for item in program}), True)

    def test_any_deed_taken_from_the_found_table(self):
        taken = 0
        for seed in range(100):
            program = Maker(seed).program()
            found = open_rows(program)
            for item in program:
                own, lets = found[item[1]]
                smaller = [([d for d in own if d != deed], lets) for deed in own]
                smaller += [(own, [d for d in lets if d != deed]) for deed in lets]
                if item[0] == "def" and item[3] is not None:
                    smaller += [([d for d in own if d != deed], sorted(lets + [deed])) for deed in own]
                for row in smaller:
                    taken += 1
                    self.assertIs(fits(program, {**found, item[1]: row}), False)
            self.assertIs(fits(program, found), True)
        self.assertGreater(taken, 500)

    def test_every_table_of_small_programs(self):
        told = {True: 0, False: 0}
        for seed in range(150):
            program = Maker(seed, deeds=("a", "b"), functions=1, handlers=1, depth=3).program()
            for table in all_tables(program):
                answer = fits(program, table)
                self.assertIs(answer, table_fits(program, table))
                told[answer] += 1
        self.assertGreater(min(told.values()), 300)


class RowOf(unittest.TestCase):
    def test_functions_without_block_and_handlers(self):
        program = read(TheTable.TEXT)
        for name in ("main", "g", "h"):
            self.assertEqual(row_of(program, name), TheTable.FOUND[name][0])
            self.assertEqual(row_of(program, name, None), TheTable.FOUND[name][0])
        self.assertEqual(row_of(read("(def f () 1)"), "f"), [])

    def test_each_function_that_may_be_handed_on(self):
        program = read("(def f (x) p (handle h 1 (+ (call p 1) (do c 1)))) (handler h (on d x s 1) (end x s x))"
                       "(def i (x) p (call p x)) (def j (x) p x)"
                       "(def one (x) (do d x)) (def two (x) (do e (do d x))) (def none (x) x) (def three (x) (do c x))")
        for f, table in (("f", {"one": ["c"], "two": ["c", "e"], "none": ["c"], "three": ["c"]}),
                         ("i", {"one": ["d"], "two": ["d", "e"], "none": [], "three": ["c"]}),
                         ("j", {"one": [], "two": [], "none": [], "three": []})):
            for g, row in table.items():
                self.assertEqual(row_of(program, f, g), row)
                self.assertEqual(row_of(program, f, block=g), row)

    def test_programs_by_chance(self):
        for seed in range(60):
            program = Maker(seed).program()
            for kind, name, handed in spots_of(program):
                row = [deed for deed in all_deeds(program) if has_way(program, (kind, name, handed), deed)]
                self.assertEqual(row_of(program, name, handed), row)


class Bounds(FoundCase):
    def test_forty_items_in_a_chain(self):
        names = [one + other for one in "ab" for other in LETTERS]
        for count in (40, 45):
            for turn in (1, -1):
                items = ["(def %s () (+ (do %s 1) (call %s)))" % (name, name, after)
                         for name, after in zip(names[:count], names[1:])]
                items.append("(def " + names[count] + " () (do z 1))")
                program = read(" ".join(items[::turn]))
                found = open_rows(program)
                for at in range(count):
                    self.assertEqual(found[names[at]], (names[at:count] + ["z"], []))
                self.assertIs(fits(program, found), True)

    def test_forty_items_in_a_ring_with_blocks(self):
        names = [one + other for one in "ab" for other in LETTERS][:38]
        for turn in (1, -1):
            items = ["(def %s (x) p (hand %s p x))" % pair for pair in zip(names, names[1:])]
            items.append("(def " + names[-1] + " (x) q (+ (call q x) (hand aa q (do c x))))")
            items += ["(def g (x) (do d x))", "(def f (x) (hand aa g x))"]
            found = open_rows(read(" ".join(items[::turn])))
            self.assertEqual(found["f"], rows("c d"))
            for name in names:
                self.assertEqual(found[name], rows("c", "d"))

    def test_many_deeds(self):
        for count in (100, 199, 200, 260):
            deeds = sorted("d" + one + other for one in LETTERS[:10] for other in LETTERS)[:count]
            items = [("def", "f" + LETTERS[at], (), None, body) for at, body in enumerate(dones(deeds))]
            calls = ("num", 0)
            for item in items:
                calls = ("op", "+", calls, ("call", item[1], None, ()))
            clauses = tuple((deed, "x", "s", ("go", ("var", "x"), ("var", "s"))) for deed in deeds[-8:])
            items += [("handler", "h", clauses, ("x", "s", ("var", "x"))),
                      ("def", "all", (), None, calls), ("def", "some", (), None, ("handle", "h", ("num", 0), calls)),
                      ("def", "b", ("x",), "p", ("handle", "h", ("num", 0), ("call", "p", None, (("var", "x"),)))),
                      ("def", "g", ("x",), None, ("call", "all", None, ()))]
            program = tuple(items)
            self.assertIsNone(check(program))
            found = open_rows(program)
            self.assertEqual(found["all"], (deeds, []))
            self.assertEqual(found["some"], (deeds[:-8], []))
            self.assertEqual(found["b"], ([], deeds[:-8]))
            self.assertEqual(row_of(program, "b", "g"), deeds[:-8])
            self.assertIs(fits(program, found), True)
            self.assertIs(fits(program, {**found, "all": (deeds[:-1], [])}), False)
            self.assertIs(fits(program, {**found, "b": ([], deeds[1:-8])}), False)

    def test_sixty_deep(self):
        for count in (24, 60, 80):
            tree = ("do", "d", ("do", "e", ("num", 1)))
            for turn in range(count):
                tree = ("handle", "h", ("do", "e", ("num", 1)), tree)
            handler = ("handler", "h", (("d", "x", "s", ("num", 1)),), ("x", "s", ("var", "x")))
            self.assertEqual(open_rows((("def", "f", (), None, tree), handler))["f"], rows("e"))


def dones(deeds):
    """Bodies that do some twenty deeds each, one after another."""
    for at in range(0, len(deeds), 20):
        tree = ("num", 1)
        for deed in deeds[at : at + 20]:
            tree = ("do", deed, tree)
        yield tree


class TheAskersOwn(unittest.TestCase):
    def test_the_table_handed_in_stays(self):
        program = read(TheTable.TEXT)
        table = open_rows(program)
        before = repr(table)
        self.assertIs(fits(program, table), True)
        self.assertEqual(repr(table), before)
        table["f"] = ([], ["c"])
        before = repr(table)
        self.assertIs(fits(program, table), False)
        self.assertEqual(repr(table), before)

    def test_what_was_given_may_be_changed(self):
        program = read(TheTable.TEXT)
        other = read("(def f () (do z 1))")
        for turn in range(3):
            found = open_rows(program)
            self.assertEqual(found, TheTable.FOUND)
            for own, lets in found.values():
                own.append("z")
                lets.append("z")
            found.clear()
            self.assertEqual(open_rows(other), {"f": (["z"], [])})
            row = row_of(program, "f", "g")
            self.assertEqual(row, ["c", "e"])
            row.clear()
            self.assertEqual(row_of(other, "f"), ["z"])
            self.assertIs(fits(program, open_rows(program)), True)

    def test_no_two_lists_are_one(self):
        found = open_rows(read("(def f () (do d 1)) (def g () (call f)) (def k () p 1) (def i () p 1)"))
        lists = [part for row in found.values() for part in row]
        self.assertEqual(len({id(part) for part in lists}), len(lists))


if __name__ == "__main__":
    unittest.main()
