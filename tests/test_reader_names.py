"""Names in a text (point 3) and numbers in it (points 4 and 6)."""

import unittest

from helper import END, WORDS, ReaderCase, in_function

# A text with @ where a name is asked, for each kind of name, and the program with @ there.
X = ("var", "x")
ONE = ("num", 1)
THE_END = ("x", "s", X)


def function(body):
    return (("def", "f", (), None, body),)


NAME_PLACES = (
    ("(def @ () 1)", (("def", "@", (), None, ONE),)),
    ("(def f (@) 1)", (("def", "f", ("@",), None, ONE),)),
    ("(def f (x @ y) 1)", (("def", "f", ("x", "@", "y"), None, ONE),)),
    ("(def f () @ 1)", (("def", "f", (), "@", ONE),)),
    ("(def f (x) @ 1)", (("def", "f", ("x",), "@", ONE),)),
    ("(handler @ (end x s x))", (("handler", "@", (), THE_END),)),
    ("(handler h (on @ x s 1) (end x s x))", (("handler", "h", (("@", "x", "s", ONE),), THE_END),)),
    ("(handler h (on d @ s 1) (end x s x))", (("handler", "h", (("d", "@", "s", ONE),), THE_END),)),
    ("(handler h (on d x @ 1) (end x s x))", (("handler", "h", (("d", "x", "@", ONE),), THE_END),)),
    ("(handler h (end @ s x))", (("handler", "h", (), ("@", "s", X)),)),
    ("(handler h (end x @ x))", (("handler", "h", (), ("x", "@", X)),)),
    (in_function("(let @ 1 1)"), function(("let", "@", ONE, ONE))),
    (in_function("(call @)"), function(("call", "@", None, ()))),
    (in_function("(call @ 1)"), function(("call", "@", None, (ONE,)))),
    (in_function("(hand @ g)"), function(("call", "@", "g", ()))),
    (in_function("(hand g @)"), function(("call", "g", "@", ()))),
    (in_function("(hand g @ 1)"), function(("call", "g", "@", (ONE,)))),
    (in_function("(do @ 1)"), function(("do", "@", ONE))),
    (in_function("(handle @ 1 1)"), function(("handle", "@", ONE, ONE))),
)
# Where a variable is told, an expression is asked.
VARIABLE_PLACES = (
    (in_function("@"), function(("var", "@"))),
    ("(def f (x) p @)", (("def", "f", ("x",), "p", ("var", "@")),)),
    (in_function("(+ @ 1)"), function(("op", "+", ("var", "@"), ONE))),
    (in_function("(let x @ 1)"), function(("let", "x", ("var", "@"), ONE))),
    (in_function("(call f @)"), function(("call", "f", None, (("var", "@"),)))),
    ("(handler h (on d x s @) (end x s x))", (("handler", "h", (("d", "x", "s", ("var", "@")),), THE_END),)),
    ("(handler h (end x s @))", (("handler", "h", (), ("x", "s", ("var", "@"))),)),
)
EVERY_PLACE = NAME_PLACES + VARIABLE_PLACES
PARTING = " \n()"
OTHER_SIGNS = [chr(number) for number in range(32, 127) if not chr(number).islower() and chr(number) not in PARTING]


def put(tree, name):
    """The tree with a name where @ stands."""
    if isinstance(tree, tuple):
        return tuple(put(part, name) for part in tree)
    return name if tree == "@" else tree


class Names(ReaderCase):
    def read_everywhere(self, name):
        for text, program in EVERY_PLACE:
            self.reads(text.replace("@", name), put(program, name))

    def refused_everywhere(self, name):
        for text, program in EVERY_PLACE:
            self.refuses(text.replace("@", name))

    def test_one_letter(self):
        for letter in "abcdefghijklmnopqrstuvwxyz":
            self.read_everywhere(letter)

    def test_up_to_eight_letters(self):
        for name in ("az", "abc", "abcd", "abcde", "abcdef", "abcdefg", "abcdefgh", "zzzzzzzz"):
            self.read_everywhere(name)

    def test_nine_letters_and_more(self):
        for name in ("abcdefghi", "zzzzzzzzz", "abcdefghijklmnopqrstuvwxyz", "a" * 5000):
            self.refused_everywhere(name)

    def test_the_twelve_words(self):
        for word in WORDS:
            self.refused_everywhere(word)

    def test_names_that_hold_a_word(self):
        for name in ("defx", "xdef", "lets", "iff", "handled", "handlers", "goo", "ond", "ends", "op", "num", "var"):
            self.read_everywhere(name)

    def test_other_letters_figures_and_signs(self):
        for sign in OTHER_SIGNS + ["\t"]:
            for name in ("a" + sign, sign + "a", "a" + sign + "b"):
                self.refused_everywhere(name)

    def test_words_in_capitals(self):
        for name in ("A", "Z", "Ab", "aB", "ABC", "Let"):
            self.refused_everywhere(name)

    def test_a_number_a_sign_or_brackets_where_a_name_is_asked(self):
        for text, program in NAME_PLACES:
            for wrong in ["0", "7", "123", "()", "(x)", "(+ 1 2)", "(call f)"] + OTHER_SIGNS:
                self.refuses(text.replace("@", wrong))

    def test_no_name_where_one_is_asked(self):
        self.refuses("(def () 1)")
        self.refuses("(handler " + END + ")")


class Numbers(ReaderCase):
    def test_one_to_eighteen_figures(self):
        for figures in range(1, 19):
            for text in ("1234567890" * 2, "1" + "0" * 17, "9" * 18):
                written = text[:figures]
                self.reads_body(written, ("num", int(written)))

    def test_each_figure(self):
        for number in range(10):
            self.reads_body(str(number), ("num", number))

    def test_nought(self):
        self.reads_body("0", ("num", 0))

    def test_the_greatest(self):
        self.reads_body("999999999999999999", ("num", 999999999999999999))

    def test_nineteen_figures_and_more(self):
        for text in ("1000000000000000000", "1" * 19, "9" * 19, "1" * 20, "7" * 5000):
            self.refuses_body(text)

    def test_a_nought_ahead(self):
        for text in ("00", "01", "007", "0" * 18, "0" * 17 + "1", "0" * 19, "0" * 5000):
            self.refuses_body(text)

    def test_a_sign_ahead(self):
        for text in ("-1", "+1", "-0", "+0", "*1", "<1", "- 1", "+ 1"):
            self.refuses_body(text)

    def test_other_ways_of_writing(self):
        for text in ("1_000", "0x1", "1e3", "1.0", "1,0", "0b1", "1a", "a1", "1-", "1+1", "1'", "True", "None"):
            self.refuses_body(text)

    def test_where_parts_are(self):
        self.reads_body("(+ 0 999999999999999999)", ("op", "+", ("num", 0), ("num", 999999999999999999)))
        self.refuses_body("(+ 0 1000000000000000000)")
        self.refuses_body("(+ 00 1)")
        self.refuses_body("(call f 1 -1)")


if __name__ == "__main__":
    unittest.main()
