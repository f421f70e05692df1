"""Functions, handlers and programs: points 5 and 6."""

import unittest

from helper import END, WORDS, ReaderCase

X, ONE = ("var", "x"), ("num", 1)
THE_END = ("x", "s", X)


class Functions(ReaderCase):
    def test_params(self):
        self.reads("(def f () 1)", (("def", "f", (), None, ONE),))
        self.reads("(def f (x) x)", (("def", "f", ("x",), None, X),))
        self.reads("(def f (x y) x)", (("def", "f", ("x", "y"), None, X),))
        self.reads("(def f (z y x a) x)", (("def", "f", ("z", "y", "x", "a"), None, X),))

    def test_a_block(self):
        self.reads("(def f () p 1)", (("def", "f", (), "p", ONE),))
        self.reads("(def f (x) p x)", (("def", "f", ("x",), "p", X),))
        self.reads("(def f (x y) p (call p x))", (("def", "f", ("x", "y"), "p", ("call", "p", None, (X,))),))

    def test_a_body_that_might_be_a_block(self):
        self.reads("(def f () p)", (("def", "f", (), None, ("var", "p")),))
        self.reads("(def f () p p)", (("def", "f", (), "p", ("var", "p")),))

    def test_a_thing_too_few(self):
        for text in ("(def)", "(def f)", "(def ())", "(def f ())", "(def f 1)", "(def () 1)", "(def f (x))"):
            self.refuses(text)

    def test_a_thing_too_many(self):
        for text in ("(def f () p 1 2)", "(def f () p q 1)", "(def f () 1 2)", "(def f () (+ 1 2) 3)"):
            self.refuses(text)
        for text in ("(def f () () 1)", "(def f () (p) 1)", "(def f () 1 ())", "(def f g () 1)", "(def f () p 1 ())"):
            self.refuses(text)

    def test_params_without_brackets(self):
        for text in ("(def f x 1)", "(def f x y 1)", "(def f 5 1)", "(def f x p 1)", "(def f + 1)", "(def f p)"):
            self.refuses(text)

    def test_params_that_are_no_names(self):
        for wrong in ["5", "0", "()", "(x)", "+", "abcdefghi", "X", "(+ 1 2)"] + WORDS:
            self.refuses("(def f (" + wrong + ") 1)")
            self.refuses("(def f (x " + wrong + ") 1)")
            self.refuses("(def f (" + wrong + " x) p 1)")


class Handlers(ReaderCase):
    def test_clauses(self):
        one = ("d", "x", "s", ("go", X, ("var", "s")))
        two = ("e", "y", "t", ONE)
        three = ("g", "a", "b", ("num", 3))
        texts = ("(on d x s (go x s))", "(on e y t 1)", "(on g a b 3)")
        self.reads("(handler h " + END + ")", (("handler", "h", (), THE_END),))
        self.reads("(handler h " + texts[0] + " " + END + ")", (("handler", "h", (one,), THE_END),))
        self.reads("(handler h " + " ".join(texts) + " " + END + ")", (("handler", "h", (one, two, three), THE_END),))
        self.reads("(handler h " + " ".join(texts[::-1]) + END + ")", (("handler", "h", (three, two, one), THE_END),))

    def test_the_end(self):
        self.reads("(handler h (end a b (+ a b)))",
                   (("handler", "h", (), ("a", "b", ("op", "+", ("var", "a"), ("var", "b")))),))

    def test_the_end_lacking_first_or_twice(self):
        on = "(on d x s 1)"
        for inside in ("", on, on + on, END + on, END + END, on + END + END, END + on + END, on + END + on):
            self.refuses("(handler h " + inside + ")")

    def test_a_thing_too_few(self):
        for text in ("(handler)", "(handler h)", "(handler " + END + ")"):
            self.refuses(text)
        for on in ("(on)", "(on d)", "(on d x)", "(on d x s)", "(on x s 1)", "()", "(d x s 1)"):
            self.refuses("(handler h " + on + END + ")")
        for end in ("(end)", "(end x)", "(end x s)", "(end x 1)", "()", "(x s x)"):
            self.refuses("(handler h " + end + ")")
            self.refuses("(handler h (on d x s 1)" + end + ")")

    def test_a_thing_too_many(self):
        for on in ("(on d x s 1 2)", "(on d x s s 1)", "(on d e x s 1)", "(on d x s 1 ())", "(on d x s () 1)",
                   "(on d (x s) 1)"):
            self.refuses("(handler h " + on + END + ")")
        for end in ("(end x s x x)", "(end d x s 1)", "(end x s x ())", "(end x s () x)", "(end (x s) x)"):
            self.refuses("(handler h " + end + ")")
        for text in ("(handler h h " + END + ")", "(handler h 5 " + END + ")", "(handler h () " + END + ")"):
            self.refuses(text)
        for text in ("(handler h " + END + " x)", "(handler h " + END + " ())", "(handler h (x) " + END + ")"):
            self.refuses(text)

    def test_other_things_among_the_clauses(self):
        for thing in ("x", "5", "+", "on", "end", "(+ 1 2)", "(def f () 1)", "(do d 1)", "((on d x s 1))",
                      "(onn d x s 1)"):
            self.refuses("(handler h " + thing + END + ")")
            self.refuses("(handler h (on d x s 1)" + thing + " " + END + ")")
            self.refuses("(handler h " + thing + ")")
        for end in ("((end x s x))", "end x s x", "(ends x s x)", "(END x s x)"):
            self.refuses("(handler h " + end + ")")

    def test_wrong_bodies(self):
        for wrong in ["()", "(x)", "+", "(num 5)", "00", "X"] + WORDS:
            self.refuses("(handler h (on d x s " + wrong + ")" + END + ")")
            self.refuses("(handler h (end x s " + wrong + "))")


class Programs(ReaderCase):
    def test_no_items(self):
        for text in ("", " ", "\n", "    ", "\n\n\n", " \n \n", "\n  \n "):
            self.reads(text, ())

    def test_several_items_in_their_order(self):
        f, g = ("def", "f", (), None, ONE), ("def", "g", ("x",), "p", X)
        h, k = ("handler", "h", (), THE_END), ("handler", "k", (("d", "x", "s", ONE),), THE_END)
        texts = {f: "(def f () 1)", g: "(def g (x) p x)", h: "(handler h (end x s x))"}
        texts[k] = "(handler k (on d x s 1) (end x s x))"
        for items in ((f,), (h,), (f, g), (g, f), (h, f), (f, h, g, k), (k, g, h, f), (h, k)):
            for parting in ("", " ", "\n", "\n\n", " \n "):
                self.reads(parting.join(texts[item] for item in items), items)

    def test_what_stands_outside_of_all_items(self):
        item = "(def f () 1)"
        outside = ["x", "5", "+", "()", "(())", "(x)", "(5)", "(+ 1 2)", "(do d 1)", "(call f)", "(on d x s 1)"]
        outside += [END, "(def)", "((def g () 1))", "(" + item + item + ")", "(fun g () 1)", "(DEF g () 1)"]
        for thing in outside + WORDS:
            for text in (thing, item + thing, thing + item, item + " " + thing, thing + "\n" + item,
                         item + thing + item):
                self.refuses(text)

    def test_an_item_within_an_item(self):
        self.refuses("(def f () (def g () 1))")
        self.refuses("(def f () (handler h " + END + "))")
        self.refuses("(handler h (def g () 1) " + END + ")")
        self.refuses("(def f () 1 (def g () 1))")


class RefusedLaterOnly(ReaderCase):
    """Programs that check refuses, by point 7, are read."""

    def test_unknown_names(self):
        self.reads_body("x", X)
        self.reads_body("(call g x 1)", ("call", "g", None, (X, ONE)))
        self.reads_body("(hand g p)", ("call", "g", "p", ()))
        self.reads_body("(handle h x 1)", ("handle", "h", X, ONE))

    def test_go_outside_of_a_clause(self):
        self.reads_body("(go 1 x)", ("go", ONE, X))
        self.reads("(handler h (end x s (go x 1)))", (("handler", "h", (), ("x", "s", ("go", X, ONE))),))
        self.reads("(handler h (on d x s (handle h 1 (go x 1))) (end x s x))",
                   (("handler", "h", (("d", "x", "s", ("handle", "h", ONE, ("go", X, ONE))),), THE_END),))

    def test_a_handle_in_an_end(self):
        self.reads("(handler h (end x s (handle h 1 x)))",
                   (("handler", "h", (), ("x", "s", ("handle", "h", ONE, X))),))

    def test_names_told_twice(self):
        f = ("def", "f", (), None, ONE)
        self.reads("(def f () 1) (def f () 1)", (f, f))
        self.reads("(def f () 1) (handler f (end x s x))", (f, ("handler", "f", (), THE_END)))
        self.reads("(def f (x x) x 1)", (("def", "f", ("x", "x"), "x", ONE),))
        self.reads("(def f () f 1)", (("def", "f", (), "f", ONE),))
        self.reads("(handler h (end x x x))", (("handler", "h", (), ("x", "x", X)),))
        clause = ("d", "x", "x", ONE)
        self.reads("(handler h (on d x x 1) (on d x x 1) (end x s x))", (("handler", "h", (clause, clause), THE_END),))

    def test_other_counts_of_args(self):
        self.reads("(def f (x) (call f))", (("def", "f", ("x",), None, ("call", "f", None, ())),))
        self.reads("(def f (x) (hand f f x x))", (("def", "f", ("x",), None, ("call", "f", "f", (X, X))),))


if __name__ == "__main__":
    unittest.main()
