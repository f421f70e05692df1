"""Blanks, line ends, other signs and brackets (point 6), bounds (8), and nothing kept (1)."""

import random
import re
import unittest

from deedwright.errors import NoText
from deedwright.reader import read
from helper import END, ReaderCase, in_function

SAMPLE = (
    "(def main (x y) (let z (+ x (do ask y)) (if (< z 0) (call f z 1) (hand g f z))))\n"
    "(def g (x) p (guard 7 (call p (- x 1))))\n"
    "(handler h (on ask x s (go (* x 2) s)) (on tell x s (handle h s 5)) (end x s x))"
)
SAMPLE_PROGRAM = (
    ("def", "main", ("x", "y"), None,
     ("let", "z", ("op", "+", ("var", "x"), ("do", "ask", ("var", "y"))),
      ("if", ("op", "<", ("var", "z"), ("num", 0)),
       ("call", "f", None, (("var", "z"), ("num", 1))),
       ("call", "g", "f", (("var", "z"),))))),
    ("def", "g", ("x",), "p",
     ("guard", ("num", 7), ("call", "p", None, (("op", "-", ("var", "x"), ("num", 1)),)))),
    ("handler", "h",
     (("ask", "x", "s", ("go", ("op", "*", ("var", "x"), ("num", 2)), ("var", "s"))),
      ("tell", "x", "s", ("handle", "h", ("var", "s"), ("num", 5)))),
     ("x", "s", ("var", "x"))),
)
TOKENS = re.findall(r"[()]|[^() \n]+", SAMPLE)


def needs_parting(one, other):
    """Whether two words that stand side by side must be parted."""
    return one not in "()" and other not in "()"


def spaced(parting, always):
    """The sample, parted alike wherever it may be or, else, only where it must be."""
    text = TOKENS[0]
    for one, other in zip(TOKENS, TOKENS[1:]):
        text += (parting if always or needs_parting(one, other) else "") + other
    return text


class Parting(ReaderCase):
    def test_the_sample(self):
        self.reads(SAMPLE, SAMPLE_PROGRAM)

    def test_blanks_and_line_ends(self):
        for parting in (" ", "\n", "  ", "\n\n", " \n", "\n ", "     ", " \n \n\n  "):
            self.reads(spaced(parting, True), SAMPLE_PROGRAM)

    def test_none_beside_a_bracket(self):
        for parting in (" ", "\n", "   ", "\n \n"):
            self.reads(spaced(parting, False), SAMPLE_PROGRAM)

    def test_both_ends_of_the_text(self):
        for ahead in ("", " ", "\n", "  \n", "\n\n "):
            for behind in ("", " ", "\n", "\n  ", " \n\n"):
                self.reads(ahead + SAMPLE + behind, SAMPLE_PROGRAM)

    def test_any_mixture(self):
        chance = random.Random(6)
        for turn in range(200):
            text = "".join(chance.choice(" \n") for count in range(chance.randrange(3)))
            for one, other in zip(TOKENS, TOKENS[1:] + ["("]):
                count = chance.randrange(3) + (1 if needs_parting(one, other) else 0)
                text += one + "".join(chance.choice(" \n") for k in range(count))
            self.reads(text, SAMPLE_PROGRAM)

    def test_words_that_are_not_parted(self):
        for text in ("(+1 2)", "(+ 12)", "(+12)", "(letx 1 2)", "(let x1 2)", "(do d1)", "(dod 1)", "(callf)",
                     "(-1 2)", "(<a 2)", "(if1 2 3)", "(go1 2)", "(guard1 2)", "(+ a+ 2)", "(+ 1 2a)", "(* 1*2)"):
            self.refuses_body(text)
        for text in ("(deff () 1)", "(handlerh " + END + ")", "(handler h (ond x s 1) " + END + ")"):
            self.refuses(text)

    def test_brackets_part(self):
        self.reads_body("(+(do d 1)2)", ("op", "+", ("do", "d", ("num", 1)), ("num", 2)))
        self.reads_body("(let x(do d 1)x)", ("let", "x", ("do", "d", ("num", 1)), ("var", "x")))
        self.reads("(def f(x y)p 1)(def g()2)",
                   (("def", "f", ("x", "y"), "p", ("num", 1)), ("def", "g", (), None, ("num", 2))))

    def test_a_tab_is_neither(self):
        self.refuses(SAMPLE.replace(" ", "\t"))
        for text in ("\t", " \t ", "\t\t", "\n\t\n", "\t" + SAMPLE, SAMPLE + "\t", SAMPLE + " \t"):
            self.refuses(text)

    def test_a_sign_put_in_anywhere(self):
        # Each of these signs is in no word, sign, number or bracket.
        others = [chr(k) for k in range(32, 127) if not re.match(r"[a-z0-9+\-*<() ]", chr(k))]
        self.assertEqual(len(others), 127 - 32 - 26 - 10 - 4 - 2 - 1)
        for sign in others + ["\t"]:
            for place in range(0, len(SAMPLE) + 1, 3):
                self.refuses(SAMPLE[:place] + sign + SAMPLE[place:])
                self.refuses(SAMPLE[:place] + " " + sign + " " + SAMPLE[place:])
            self.refuses(sign)

    def test_a_tab_at_every_place(self):
        for place in range(len(SAMPLE) + 1):
            self.refuses(SAMPLE[:place] + "\t" + SAMPLE[place:])
            self.refuses(SAMPLE[:place] + "\t" + SAMPLE[place + 1 :])


class Brackets(ReaderCase):
    def test_a_bracket_left_out(self):
        for place, sign in enumerate(SAMPLE):
            if sign in "()":
                self.refuses(SAMPLE[:place] + SAMPLE[place + 1 :])
                self.refuses(SAMPLE[:place] + " " + SAMPLE[place + 1 :])

    def test_a_bracket_put_in(self):
        for place in range(len(SAMPLE) + 1):
            for bracket in "()":
                self.refuses(SAMPLE[:place] + bracket + SAMPLE[place:])

    def test_a_bracket_turned(self):
        for place, sign in enumerate(SAMPLE):
            if sign in "()":
                self.refuses(SAMPLE[:place] + ("(" if sign == ")" else ")") + SAMPLE[place + 1 :])

    def test_brackets_closed_ahead_of_being_opened(self):
        for text in (")(", ")", "(", ")(def f () 1)(", "(def f () 1))(", "(def f )1( )", "(def f () 1)) (def g () 1"):
            self.refuses(text)

    def test_other_brackets(self):
        for text in ("[def f [] 1]", "{def f {} 1}", "(def f [] 1)", "(def f () 1]"):
            self.refuses(text)


def nest(ahead, behind, count, inside):
    return ahead * count + inside + behind * count


def nest_tree(head, tail, count, inside):
    for turn in range(count):
        inside = head + (inside,) + tail
    return inside


class Depth(ReaderCase):
    # Each way to nest an expression: what stands ahead of the inner one and behind it, in text and tuple.
    WAYS = (
        ("(guard 1 ", ")", ("guard", ("num", 1)), ()),
        ("(guard ", " 1)", ("guard",), (("num", 1),)),
        ("(+ ", " 2)", ("op", "+"), (("num", 2),)),
        ("(do d ", ")", ("do", "d"), ()),
        ("(let x ", " x)", ("let", "x"), (("var", "x"),)),
        ("(if 1 ", " 2)", ("if", ("num", 1)), (("num", 2),)),
        ("(go ", " 1)", ("go",), (("num", 1),)),
        ("(handle h 1 ", ")", ("handle", "h", ("num", 1)), ()),
    )

    def test_in_a_function(self):
        for ahead, behind, head, tail in self.WAYS:
            for count in (1, 2, 10, 22, 23):
                self.reads_body(nest(ahead, behind, count, "1"), nest_tree(head, tail, count, ("num", 1)))
            for count in (24, 25, 26, 30, 60, 100, 1000, 3000):
                self.refuses_body(nest(ahead, behind, count, "1"))

    def test_in_args(self):
        tree = ("num", 1)
        for turn in range(23):
            tree = ("call", "f", None, (tree,))
        self.reads_body(nest("(call f ", ")", 23, "1"), tree)
        self.refuses_body(nest("(call f ", ")", 24, "1"))
        self.refuses_body(nest("(hand f g ", ")", 24, "1"))

    def test_in_a_handler(self):
        body = nest_tree(("do", "d"), (), 22, ("var", "x"))
        end = ("x", "s", ("var", "x"))
        self.reads("(handler h (on d x s " + nest("(do d ", ")", 22, "x") + ")" + END + ")",
                   (("handler", "h", (("d", "x", "s", body),), end),))
        self.reads("(handler h (end x s " + nest("(do d ", ")", 22, "x") + "))",
                   (("handler", "h", (), ("x", "s", body)),))
        self.refuses("(handler h (on d x s " + nest("(do d ", ")", 23, "x") + ")" + END + ")")
        self.refuses("(handler h (end x s " + nest("(do d ", ")", 23, "x") + "))")

    def test_the_deepest_often(self):
        deep = nest("(do d ", ")", 22, "1")
        tree = nest_tree(("do", "d"), (), 22, ("num", 1))
        self.reads_body("(+ " + deep + " " + deep + ")", ("op", "+", tree, tree))
        self.reads(" ".join([in_function("(do d " + deep + ")")] * 40),
                   (("def", "f", (), None, ("do", "d", tree)),) * 40)
        self.refuses_body("(+ " + deep + " (do d " + deep + "))")
        self.refuses(in_function("1") + in_function("(do d (do d " + deep + "))"))

    def test_brackets_side_by_side_are_not_deep(self):
        self.reads_body("(call f" + " (do d 1)" * 300 + ")", ("call", "f", None, (("do", "d", ("num", 1)),) * 300))

    def test_thousands(self):
        for count in (24, 25, 1000, 5000, 20000):
            for text in ("(" * count, ")" * count, "(" * count + ")" * count, ")" * count + "(" * count,
                         "()" * count, "( " * count + ") " * count, "(def f () " * count):
                self.refuses(text)
        for count in (3000, 5000):
            self.refuses_body("(" * count)
            self.refuses_body("(" * count + ")" * count)
            self.refuses_body(nest("(+ 1 ", ")", count, "1"))
            self.refuses_body("(+ 1 " * count)
            self.refuses("(def f " + "(" * count + ")" * count + " 1)")
            self.refuses("(handler h " + "(end x s " * count + "1" + ")" * count + ")")
            self.refuses(SAMPLE + "(" * count)
            self.refuses(SAMPLE + ")" * count)


class Bounds(ReaderCase):
    """What lies at a bound of point 8, or somewhat beyond it, is not refused for it."""

    def test_items(self):
        for count in (40, 41, 60):
            self.reads(in_function("1") * count, (("def", "f", (), None, ("num", 1)),) * count)

    def test_params(self):
        for count in (8, 9, 12):
            self.reads("(def f (" + "x " * count + ") 1)", (("def", "f", ("x",) * count, None, ("num", 1)),))

    def test_clauses(self):
        for count in (8, 9, 12):
            self.reads("(handler h" + " (on d x s 1)" * count + END + ")",
                       (("handler", "h", (("d", "x", "s", ("num", 1)),) * count, ("x", "s", ("var", "x"))),))

    def test_expressions(self):
        for count in (2499, 2500, 2600, 5000):
            self.reads_body("(call f" + " 1" * count + ")", ("call", "f", None, (("num", 1),) * count))

    def test_signs(self):
        for count in (20000, 20001, 30000):
            padding = " " * (count - len(SAMPLE))
            self.reads(SAMPLE + padding, SAMPLE_PROGRAM)
            self.reads(padding + SAMPLE, SAMPLE_PROGRAM)
            self.reads("\n" * count, ())


class NothingKept(ReaderCase):
    def test_the_same_again(self):
        for turn in range(3):
            self.reads(SAMPLE, SAMPLE_PROGRAM)

    def test_behind_other_texts(self):
        other = "(def f () 2)"
        for turn in range(2):
            self.reads(SAMPLE, SAMPLE_PROGRAM)
            self.reads(other, (("def", "f", (), None, ("num", 2)),))
            self.reads("", ())
            self.reads(SAMPLE, SAMPLE_PROGRAM)

    def test_behind_refused_texts(self):
        wrongs = ["(", ")", "(" * 3000, "(def f () (+ 1", "x", "(def f () 1) x", SAMPLE + "(", SAMPLE[:-1]]
        wrongs += [SAMPLE[1:], in_function("(" * 23), in_function("(do d 1 2)"), "\t"]
        for wrong in wrongs:
            self.refuses(wrong)
            self.reads(SAMPLE, SAMPLE_PROGRAM)
            self.refuses(wrong)
            self.reads("", ())

    def test_a_refused_text_is_refused_again(self):
        for turn in range(3):
            with self.assertRaises(NoText):
                read(SAMPLE + ")")

    def test_tuples_texts_numbers_and_none_alone(self):
        def kinds(tree):
            if type(tree) is tuple:
                return set().union({tuple}, *[kinds(part) for part in tree])
            return {type(tree)}

        self.assertEqual(kinds(read(SAMPLE)), {tuple, str, int, type(None)})
        self.assertEqual(kinds(read("")), {tuple})


if __name__ == "__main__":
    unittest.main()
