"""Ways of deeds, and functions let by: points 14 and 15, and the first row of 2; the asker's own (1)."""

import unittest

from deedwright import errors
from deedwright.bits import deeds_of
from deedwright.checks import check
from deedwright.found import row_of
from deedwright.reader import read
from deedwright.ways import let_by, way
from helper import Maker, has_way, is_way, spots_of

LETTERS = "abcdefghijklmnopqrstuvwxyz"
NAMES = [one + other for one in "ab" for other in LETTERS]


def function(name, handed=None):
    return ("def", name, handed)


def handler(name):
    return ("handler", name, None)


class WayCase(unittest.TestCase):
    def all_ways(self, program):
        """Asks for the way from each spot of each deed, and holds it against the point; tells how many there are."""
        count = 0
        for spot in spots_of(program):
            row = row_of(program, spot[1], spot[2])
            for deed in deeds_of(program):
                told = way(program, spot, deed)
                if deed in row:
                    self.assertTrue(is_way(program, spot, deed, told), (program, spot, deed, told))
                    count += 1
                else:
                    self.assertIsNone(told)
                    self.assertFalse(has_way(program, spot, deed))
            self.assertIsNone(way(program, spot, "nodeed"))
        return count

    def goes(self, text, deed, *spots):
        """Asks for the one way that there is from the first of the spots; none where no more spot is told."""
        with self.subTest(text=text[:300], deed=deed):
            program = read(text)
            self.assertIsNone(check(program))
            self.assertEqual(way(program, spots[0], deed), list(spots))
            self.all_ways(program)

    def has_none(self, text, deed, spot):
        with self.subTest(text=text[:300], deed=deed):
            program = read(text)
            self.assertIsNone(check(program))
            self.assertIsNone(way(program, spot, deed))
            self.all_ways(program)


class OneWay(WayCase):
    def test_done_at_the_first_spot(self):
        for body in ("(do d 1)", "(do e (do d 1))", "(+ 1 (do d 1))", "(let x (do d 1) 1)", "(if 1 2 (do d 1))",
                     "(guard (do d 1) 1)", "(call f (do d 1))"):
            self.goes("(def f (x) " + body + ")", "d", function("f"))

    def test_no_way(self):
        self.has_none("(def f () 1) (def g () (do d 1))", "d", function("f"))
        self.has_none("(def f () (do e 1)) (def g () (do d 1))", "d", function("f"))
        self.has_none("(def f () 1)", "f", function("f"))
        self.has_none("(def f () (do d 1))", "e", function("f"))
        self.has_none("(def f () (do d 1))", "f", function("f"))
        # A deed that has a clause and is not done.
        self.has_none("(def f () (handle h 1 2)) (handler h (on d x s 1) (end x s x))", "d", function("f"))
        self.has_none("(def f () (handle h 1 2)) (handler h (on d x s 1) (end x s x))", "d", handler("h"))

    def test_a_call(self):
        self.goes("(def f () (call g)) (def g () (do d 1))", "d", function("f"), function("g"))
        self.goes("(def f () (+ (call k) (call g))) (def k () (do e 1)) (def g () (do d 1))", "d",
                  function("f"), function("g"))

    def test_a_chain(self):
        self.goes("(def f () (call g)) (def g () (call k)) (def k () (call i)) (def i () (do d 1))", "d",
                  function("f"), function("g"), function("k"), function("i"))

    def test_a_block_handed_on_and_called(self):
        self.goes("(def f () (hand b g)) (def b () p (call p 1)) (def g (x) (do d x))", "d",
                  function("f"), function("b", "g"), function("g"))
        self.goes("(def f () (hand b g)) (def b () p (do d 1)) (def g (x) 1)", "d", function("f"), function("b", "g"))
        self.goes("(def b () p (call p 1)) (def g (x) (do d x))", "d", function("b", "g"), function("g"))
        self.has_none("(def f () (hand b g)) (def b () p 1) (def g (x) (do d x))", "d", function("f"))
        self.has_none("(def b () p (call p 1)) (def g (x) (do d x)) (def k (x) x)", "d", function("b", "k"))

    def test_a_block_handed_further_on(self):
        self.goes("(def f () (hand b g)) (def b () p (hand i p)) (def i () q (call q 1)) (def g (x) (do d x))", "d",
                  function("f"), function("b", "g"), function("i", "g"), function("g"))
        self.goes("(def f () (hand b g)) (def b () p (hand i p)) (def i () q (do d 1)) (def g (x) x)", "d",
                  function("f"), function("b", "g"), function("i", "g"))
        # Another one than the own block is handed on.
        self.goes("(def f () (hand b g)) (def b () p (hand i k)) (def i () q (call q 1)) (def g (x) (do e x))"
                  "(def k (x) (do d x))", "d", function("f"), function("b", "g"), function("i", "k"), function("k"))

    def test_one_function_with_two_blocks(self):
        text = ("(def f () (+ (hand b g) (hand b k))) (def b () p (call p 1)) (def g (x) (do d x))"
                "(def k (x) (do e x))")
        self.goes(text, "d", function("f"), function("b", "g"), function("g"))
        self.goes(text, "e", function("f"), function("b", "k"), function("k"))

    def test_one_function_twice_with_another_block(self):
        self.goes("(def f () (hand b g)) (def b () p (+ (call p 1) (hand b k))) (def g (x) 1) (def k (x) (do d x))",
                  "d", function("f"), function("b", "g"), function("b", "k"), function("k"))

    def test_a_handle(self):
        self.goes("(def f () (handle h 1 2)) (handler h (on e x s (do d 1)) (end x s x))", "d",
                  function("f"), handler("h"))
        self.goes("(def f () (handle h 1 2)) (handler h (on e x s 1) (end x s (do d 1)))", "d",
                  function("f"), handler("h"))
        self.goes("(handler h (on e x s (call g)) (end x s x)) (def g () (do d 1))", "d", handler("h"), function("g"))
        self.goes("(handler h (on e x s 1) (end x s (call g))) (def g () (do d 1))", "d", handler("h"), function("g"))
        self.goes("(handler h (on e x s (handle i 1 2)) (end x s x)) (handler i (end x s (do d 1)))", "d",
                  handler("h"), handler("i"))
        self.goes("(handler h (on e x s (go (do d 1) s)) (end x s x))", "d", handler("h"))
        self.goes("(handler h (on e x s (hand b g)) (end x s x)) (def b () p (call p 1)) (def g (x) (do d x))", "d",
                  handler("h"), function("b", "g"), function("g"))

    def test_a_handler_that_does_the_deed_it_answers(self):
        self.goes("(def f () (handle h 1 2)) (handler h (on d x s (do d 1)) (end x s x))", "d",
                  function("f"), handler("h"))
        self.goes("(def f () (handle h 1 (do d 1))) (handler h (on d x s 1) (end x s (do d 1)))", "d",
                  function("f"), handler("h"))

    def test_the_s_of_a_handle_and_its_b(self):
        answers = "(handler h (on d x s 1) (end x s x)) (def g () (do d 1))"
        self.goes("(def f () (handle h (do d 1) 1))" + answers, "d", function("f"))
        self.goes("(def f () (handle h (call g) (call g)))" + answers, "d", function("f"), function("g"))
        self.has_none("(def f () (handle h 1 (do d 1)))" + answers, "d", function("f"))
        self.has_none("(def f () (handle h 1 (call g)))" + answers, "d", function("f"))
        self.has_none("(def f () (handle h 1 (+ 1 (let x (call g) x))))" + answers, "d", function("f"))
        self.goes("(def f () (handle h 1 (do e 1)))" + answers, "e", function("f"))
        self.goes("(def f () (handle h 1 (handle i 1 (do e (do d 1))))) (handler i (end x s x))" + answers, "e",
                  function("f"))
        self.has_none("(def f () (handle h 1 (handle i 1 (do d 1)))) (handler i (end x s x))" + answers, "d",
                      function("f"))
        self.has_none("(def f () (handle h 1 (handle i (do d 1) 2))) (handler i (end x s x))" + answers, "d",
                      function("f"))

    def test_a_handle_that_is_itself_answered(self):
        answers = "(handler h (on d x s 1) (end x s x)) (handler i (end x s (do d 1)))"
        self.goes("(def f () (handle i 1 (handle h 1 2)))" + answers, "d", function("f"), handler("i"))
        self.has_none("(def f () (handle h 1 (handle i 1 2)))" + answers, "d", function("f"))

    def test_the_block_called_under_a_handler(self):
        answers = "(handler h (on d x s 1) (end x s x)) (def g (x) (do e (do d x)))"
        self.has_none("(def b () p (handle h 1 (call p 1)))" + answers, "d", function("b", "g"))
        self.goes("(def b () p (handle h 1 (call p 1)))" + answers, "e", function("b", "g"), function("g"))
        self.goes("(def b () p (handle h (call p 1) 1))" + answers, "d", function("b", "g"), function("g"))


class ManyWays(WayCase):
    def test_rings(self):
        self.assertEqual(self.all_ways(read(
            "(def f () (+ (call f) (call g))) (def g () (+ (call f) (call k))) (def k () (+ (do d 1) (call f)))")), 3)
        self.assertEqual(self.all_ways(read(
            "(def f (x) p (+ (hand f p 1) (hand i p 1))) (def i (x) q (+ (hand f g 1) (+ (hand f q 1) (call q 1))))"
            "(def g (x) (hand f k x)) (def k (x) (do d 1))")), 6)
        self.assertEqual(self.all_ways(read("(def f () (call g)) (def g () (call f)) (def k () (do d 1))")), 1)

    def test_programs_by_chance(self):
        count = 0
        for seed in range(200):
            count += self.all_ways(Maker(seed, functions=2 + seed % 4, handlers=seed % 4, depth=3 + seed % 2).program())
        self.assertGreater(count, 1000)

    def test_the_same_each_time(self):
        for seed in range(30):
            program = Maker(seed).program()
            asked = [(spot, deed) for spot in spots_of(program) for deed in deeds_of(program)]
            told = [way(program, spot, deed) for spot, deed in asked]
            for turn in range(2):
                self.assertEqual([way(program, spot, deed) for spot, deed in asked], told)


class Bounds(WayCase):
    def test_forty_items_in_a_chain(self):
        for turn in (1, -1):
            items = ["(def %s () (+ 1 (call %s)))" % pair for pair in zip(NAMES[:39], NAMES[1:])]
            items.append("(def " + NAMES[39] + " () (do d 1))")
            program = read(" ".join(items[::turn]))
            for at in range(40):
                self.assertEqual(way(program, function(NAMES[at]), "d"), [function(name) for name in NAMES[at:40]])

    def test_forty_items_in_a_chain_of_blocks(self):
        items = ["(def %s (x) p (hand %s p x))" % pair for pair in zip(NAMES[:37], NAMES[1:])]
        items += ["(def " + NAMES[37] + " (x) p (call p x))", "(def g (x) (do d x))", "(def f () (hand aa g 1))"]
        along = [function("f")] + [function(name, "g") for name in NAMES[:38]] + [function("g")]
        self.assertEqual(way(read(" ".join(items)), function("f"), "d"), along)

    def test_forty_items_in_a_chain_of_handlers(self):
        items = ["(handler %s (on e x s (handle %s 1 2)) (end x s x))" % pair for pair in zip(NAMES[:39], NAMES[1:])]
        items.append("(handler " + NAMES[39] + " (end x s (do d 1)))")
        self.assertEqual(way(read(" ".join(items)), handler("aa"), "d"), [handler(name) for name in NAMES[:40]])

    def test_one_function_with_many_blocks_along_a_way(self):
        handed = ["k" + letter for letter in LETTERS[:19]]
        items = ["(def %s (x) (hand b %s x))" % pair for pair in zip(handed, handed[1:])]
        items += ["(def " + handed[-1] + " (x) (do d x))", "(def b (x) p (call p x))", "(def f () (hand b ka 1))"]
        along = [function("f")]
        for name in handed:
            along += [function("b", name), function(name)]
        program = read(" ".join(items))
        self.assertEqual(way(program, function("f"), "d"), along)
        self.all_ways(program)

    def test_many_deeds(self):
        deeds = sorted("d" + one + other for one in LETTERS[:10] for other in LETTERS)
        items = [("def", NAMES[at], (), None, ("op", "+", ("call", NAMES[at + 1], None, ()), body))
                 for at, body in enumerate(self.dones(deeds))]
        items.append(("def", NAMES[len(items)], (), None, ("num", 0)))
        program = tuple(items)
        for place, deed in enumerate(deeds):
            along = [function(name) for name in NAMES[: place // 13 + 1]]
            self.assertEqual(way(program, function("aa"), deed), along)
        self.assertEqual(let_by(program, "aa", deeds), deeds)
        for lacks in (deeds[0], deeds[150], deeds[-1]):
            with self.assertRaises(errors.Lacking) as caught:
                let_by(program, "aa", [deed for deed in deeds if deed != lacks])
            self.assertEqual(caught.exception.deed, lacks)

    def dones(self, deeds):
        for at in range(0, len(deeds), 13):
            tree = ("num", 1)
            for deed in deeds[at : at + 13]:
                tree = ("do", deed, tree)
            yield tree

    def test_sixty_deep(self):
        tree = ("do", "d", ("call", "g", None, ()))
        for turn in range(60):
            tree = ("handle", "h", ("num", 1), tree)
        program = (("def", "f", (), None, tree), ("def", "g", (), None, ("do", "e", ("num", 1))),
                   ("handler", "h", (("d", "x", "s", ("num", 1)),), ("x", "s", ("var", "x"))))
        self.assertIsNone(way(program, function("f"), "d"))
        self.assertEqual(way(program, function("f"), "e"), [function("f"), function("g")])


class LetBy(unittest.TestCase):
    TEXT = ("(def f () (+ (call g) (do tell 1))) (def g () (handle h 1 (do ask (do stop 1))))"
            "(handler h (on stop x s 1) (end x s x)) (def none (x) x)")

    def lacks(self, deed, along, *asked):
        with self.assertRaises(ValueError) as caught:
            let_by(read(self.TEXT), *asked)
        self.assertIs(type(caught.exception), errors.Lacking)
        self.assertEqual(caught.exception.deed, deed)
        self.assertEqual(caught.exception.way, along)

    def test_let_by(self):
        program = read(self.TEXT)
        for hands in (["ask", "tell"], ("ask", "tell"), ["tell", "ask"], ("tell", "tell", "ask", "tell"),
                      ["ask", "tell", "stop"], ["ask", "nothing", "tell", "f", "h"]):
            self.assertEqual(let_by(program, "f", hands), ["ask", "tell"])
            self.assertEqual(let_by(program, "f", hands=hands), ["ask", "tell"])
        self.assertEqual(let_by(program, "g", ["ask"]), ["ask"])

    def test_nothing_to_be_answered(self):
        program = read(self.TEXT)
        for hands in (None, [], (), ["ask"], ["nothing", "nothing"]):
            self.assertEqual(let_by(program, "none", hands), [])
            self.assertIs(type(let_by(program, "none", hands)), list)
        self.assertEqual(let_by(program, "none"), [])

    def test_lacking(self):
        f, g = function("f"), function("g")
        self.lacks("ask", [f, g], "f")
        for hands in (None, [], (), ["stop"], ["as", "asks", "f"], ["tell"], ("tell", "tell")):
            self.lacks("ask", [f, g], "f", hands)
        for hands in (["ask"], ("ask",), ["ask", "stop", "tel", "tells", "ask"]):
            self.lacks("tell", [f], "f", hands)
        self.lacks("ask", [g], "g")
        self.lacks("ask", [g], "g", ["tell", "stop"])

    def test_the_first_by_the_letters(self):
        program = read("(def f () (do b (do ab (do a (do ba (do abc 1))))))")
        for hands, deed in (([], "a"), (["a"], "ab"), (["a", "ab"], "abc"), (["abc", "a", "ab"], "b"),
                            (["abc", "a", "ab", "b"], "ba"), (["ba", "b", "abc", "ab"], "a")):
            with self.assertRaises(errors.Lacking) as caught:
                let_by(program, "f", hands)
            self.assertEqual(caught.exception.deed, deed)
            self.assertEqual(caught.exception.way, [function("f")])
        self.assertEqual(let_by(program, "f", ["ba", "b", "abc", "ab", "a"]), ["a", "ab", "abc", "b", "ba"])

    def test_what_kind_of_error(self):
        with self.assertRaises(errors.WrightError) as caught:
            let_by(read(self.TEXT), "f")
        self.assertIsInstance(caught.exception, ValueError)
        for other in ("NoText", "NoName", "NoCount", "NoGo", "NoHold", "NoTurn", "NoRow"):
            self.assertNotIsInstance(caught.exception, getattr(errors, other))

    def test_programs_by_chance(self):
        met = {True: 0, False: 0}
        for seed in range(60):
            program = Maker(seed).program()
            for kind, f, handed in spots_of(program):
                if kind != "def" or handed is not None:
                    continue
                row = row_of(program, f)
                for hands in ([], ["a"], ["b", "a"], ["c", "b"], ["c", "b", "a"]):
                    left = [deed for deed in row if deed not in hands]
                    met[bool(left)] += 1
                    try:
                        self.assertEqual(let_by(program, f, hands), row)
                        self.assertEqual(left, [])
                    except errors.Lacking as refusal:
                        self.assertEqual(refusal.deed, left[0])
                        self.assertTrue(is_way(program, function(f), left[0], refusal.way))
        self.assertGreater(min(met.values()), 50)


class TheAskersOwn(unittest.TestCase):
    def test_what_is_handed_in_stays(self):
        hands = ["tell", "ask", "tell"]
        let_by(read(LetBy.TEXT), "f", hands)
        self.assertEqual(hands, ["tell", "ask", "tell"])

    def test_what_was_given_may_be_changed(self):
        program = read(LetBy.TEXT)
        other = read("(def f () (do ask 1)) (def g () 1)")
        along = [function("f"), function("g")]
        for turn in range(3):
            told = way(program, function("f"), "ask")
            self.assertEqual(told, along)
            told.clear()
            row = let_by(program, "f", ["ask", "tell"])
            self.assertEqual(row, ["ask", "tell"])
            row.append("z")
            with self.assertRaises(errors.Lacking) as caught:
                let_by(program, "f")
            self.assertEqual(caught.exception.way, along)
            caught.exception.way.reverse()
            self.assertEqual(way(other, function("f"), "ask"), [function("f")])
            self.assertIsNone(way(other, function("g"), "ask"))


if __name__ == "__main__":
    unittest.main()
