"""The forms of expressions: points 4 and 6."""

import unittest

from helper import WORDS, ReaderCase

A, B, C = ("var", "a"), ("num", 2), ("op", "*", ("var", "c"), ("num", 3))

# Each form: its words, one for each thing, and its tuple.
FORMS = (
    (("+", "a", "2"), ("op", "+", A, B)),
    (("-", "a", "2"), ("op", "-", A, B)),
    (("*", "a", "2"), ("op", "*", A, B)),
    (("<", "a", "2"), ("op", "<", A, B)),
    (("let", "x", "a", "2"), ("let", "x", A, B)),
    (("if", "a", "2", "(* c 3)"), ("if", A, B, C)),
    (("do", "d", "a"), ("do", "d", A)),
    (("handle", "h", "a", "2"), ("handle", "h", A, B)),
    (("go", "a", "2"), ("go", A, B)),
    (("guard", "a", "2"), ("guard", A, B)),
)
CALLS = (
    (("call", "f"), ("call", "f", None, ())),
    (("call", "f", "a"), ("call", "f", None, (A,))),
    (("call", "f", "a", "2"), ("call", "f", None, (A, B))),
    (("call", "f", "a", "2", "(* c 3)"), ("call", "f", None, (A, B, C))),
    (("hand", "f", "g"), ("call", "f", "g", ())),
    (("hand", "f", "g", "a"), ("call", "f", "g", (A,))),
    (("hand", "f", "g", "a", "2"), ("call", "f", "g", (A, B))),
    (("hand", "f", "g", "a", "2", "(* c 3)"), ("call", "f", "g", (A, B, C))),
)
# How many things behind the word are names.
NAMES_OF = {"let": 1, "do": 1, "handle": 1, "call": 1, "hand": 2}


def written(things):
    return "(" + " ".join(things) + ")"


def part_places(things):
    """The places of the things that are expressions."""
    return range(1 + NAMES_OF.get(things[0], 0), len(things))


class Forms(ReaderCase):
    def test_a_number_and_a_variable(self):
        self.reads_body("5", ("num", 5))
        self.reads_body("x", ("var", "x"))

    def test_each_form(self):
        for things, tree in FORMS + CALLS:
            self.reads_body(written(things), tree)

    def test_each_form_within_each_form(self):
        for outer, outer_tree in FORMS + CALLS:
            for place in part_places(outer):
                for inner, inner_tree in FORMS + CALLS:
                    things = outer[:place] + (written(inner),) + outer[place + 1 :]
                    if outer[0] in "+-*<":
                        tree = outer_tree[: place + 1] + (inner_tree,) + outer_tree[place + 2 :]
                    elif outer_tree[0] == "call":
                        at = place - 1 - NAMES_OF[outer[0]]
                        args = outer_tree[3]
                        tree = outer_tree[:3] + (args[:at] + (inner_tree,) + args[at + 1 :],)
                    else:
                        tree = outer_tree[:place] + (inner_tree,) + outer_tree[place + 1 :]
                    self.reads_body(written(things), tree)

    def test_the_order_of_the_parts(self):
        self.reads_body("(- 1 2)", ("op", "-", ("num", 1), ("num", 2)))
        self.reads_body("(if 1 2 3)", ("if", ("num", 1), ("num", 2), ("num", 3)))
        self.reads_body("(let x 1 2)", ("let", "x", ("num", 1), ("num", 2)))
        self.reads_body("(handle h 1 2)", ("handle", "h", ("num", 1), ("num", 2)))
        self.reads_body("(go 1 2)", ("go", ("num", 1), ("num", 2)))
        self.reads_body("(guard 1 2)", ("guard", ("num", 1), ("num", 2)))

    def test_many_args(self):
        for count in range(12):
            args = tuple(("num", k) for k in range(count))
            listed = "".join(" " + str(k) for k in range(count))
            self.reads_body("(call f" + listed + ")", ("call", "f", None, args))
            self.reads_body("(hand f g" + listed + ")", ("call", "f", "g", args))


class Refused(ReaderCase):
    def test_a_thing_too_few(self):
        for things, tree in FORMS:
            for place in range(1, len(things)):
                self.refuses_body(written(things[:place] + things[place + 1 :]))
            self.refuses_body(written(things[:1]))
        for text in ("(call)", "(hand)", "(hand f)"):
            self.refuses_body(text)

    def test_a_thing_too_many(self):
        for things, tree in FORMS:
            for more in ("a", "2", "(* c 3)", "()"):
                for place in range(1, len(things) + 1):
                    self.refuses_body(written(things[:place] + (more,) + things[place:]))
            self.refuses_body(written(things + things))

    def test_the_word_left_out(self):
        for things, tree in FORMS + CALLS:
            self.refuses_body(written(things[1:]))

    def test_the_word_elsewhere(self):
        for things, tree in FORMS + CALLS:
            for place in range(1, len(things)):
                self.refuses_body(written(things[1 : place + 1] + things[:1] + things[place + 1 :]))

    def test_no_name_where_one_is_asked(self):
        for things, tree in FORMS + CALLS:
            for place in range(1, 1 + NAMES_OF.get(things[0], 0)):
                for wrong in ["0", "5", "()", "(x)", "((x))", "(+ 1 2)", "(do d 1)", "+", "<"] + WORDS:
                    self.refuses_body(written(things[:place] + (wrong,) + things[place + 1 :]))

    def test_no_expression_where_one_is_asked(self):
        wrongs = ["()", "(())", "((+ 1 2))", "(x)", "(x 1)", "(x 1 2)", "(5)", "(5 1 2)", "+", "-", "*", "<", "(+)"]
        wrongs += ["(num 5)", "(var x)", "(op + 1 2)", "(> 1 2)", "(/ 1 2)", "(= 1 2)", "(++ 1 2)", "(plus 1 2)"]
        wrongs += ["(LET x 1 2)", "(lets x 1 2)", "(calls f)", "((call) f)", "((let) x 1 2)", "(def g () 1)"]
        wrongs += ["(handler h (end x s x))", "(on d x s 1)", "(end x s 1)", "(on)", "(end)", "(None)"]
        wrongs += WORDS + ["(" + word + ")" for word in WORDS]
        for wrong in wrongs:
            self.refuses_body(wrong)
            for things, tree in FORMS + CALLS:
                for place in part_places(things):
                    self.refuses_body(written(things[:place] + (wrong,) + things[place + 1 :]))

    def test_brackets_about_a_number_or_a_variable(self):
        for text in ("(5)", "(x)", "(+ (1) 2)", "(+ 1 (x))", "(let x (1) 2)", "(call f (1))", "((5))"):
            self.refuses_body(text)


if __name__ == "__main__":
    unittest.main()
