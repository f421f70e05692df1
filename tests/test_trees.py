"""Names and words: point 3; the forms of trees: points 4 and 5."""

import unittest

from deedwright import trees
from helper import WORDS, bodies, direct_parts


class Names(unittest.TestCase):
    def test_the_twelve_words(self):
        self.assertEqual(sorted(trees.WORDS), sorted(WORDS))
        self.assertEqual(len(trees.WORDS), 12)

    def test_the_four_signs(self):
        self.assertEqual(sorted(trees.SIGNS), ["*", "+", "-", "<"])

    def test_letters(self):
        for letter in "abcdefghijklmnopqrstuvwxyz":
            self.assertIs(trees.is_name(letter), True)

    def test_lengths(self):
        for length in range(1, 9):
            self.assertIs(trees.is_name("z" * length), True)
        for length in (0, 9, 10, 400):
            self.assertIs(trees.is_name("z" * length), False)

    def test_the_words_are_no_names(self):
        for word in WORDS:
            self.assertIs(trees.is_name(word), False)
            self.assertIs(trees.is_name(word + "x"), True)
            self.assertIs(trees.is_name("x" + word), len(word) < 8)

    def test_no_other_sign(self):
        for sign in [chr(number) for number in range(128)]:
            if not "a" <= sign <= "z":
                for word in (sign, "a" + sign, sign + "a", "a" + sign + "a"):
                    self.assertIs(trees.is_name(word), False)


class Numbers(unittest.TestCase):
    def test_numbers(self):
        for word in ("0", "1", "10", "907", "9" * 18):
            self.assertIs(trees.is_number(word), True)
        for word in ("", "00", "01", "1" * 19, "-1", "+1", "1 ", "x", "1x", "\u0661"):
            self.assertIs(trees.is_number(word), False)


def fits(kind, value):
    """Whether a value is of a kind that the forms speak of."""
    if kind == "parts":
        return type(value) is tuple and all(fits("part", part) for part in value)
    if kind == "part":
        form = trees.FORMS[value[0]]
        return len(value) == len(form) + 1 and all(fits(one, part) for one, part in zip(form, value[1:]))
    if kind == "block":
        return value is None or trees.is_name(value)
    if kind == "number":
        return type(value) is int and 0 <= value <= 999999999999999999
    return value in trees.SIGNS if kind == "sign" else kind == "name" and trees.is_name(value)


class Forms(unittest.TestCase):
    EXPRESSIONS = (
        ("num", 0),
        ("var", "x"),
        ("op", "+", ("num", 1), ("var", "y")),
        ("let", "x", ("num", 1), ("var", "x")),
        ("if", ("num", 1), ("num", 2), ("num", 3)),
        ("call", "f", None, ()),
        ("call", "f", "g", (("num", 1), ("var", "x"))),
        ("do", "d", ("num", 1)),
        ("handle", "h", ("num", 1), ("num", 2)),
        ("go", ("num", 1), ("var", "s")),
        ("guard", ("num", 1), ("num", 2)),
    )

    def test_each_form_of_expression(self):
        for tree in self.EXPRESSIONS:
            self.assertTrue(fits("part", tree), tree)
        self.assertEqual(sorted(trees.FORMS), sorted({tree[0] for tree in self.EXPRESSIONS}))

    def test_a_thing_too_few_or_too_many_fits_none(self):
        for tree in self.EXPRESSIONS:
            self.assertFalse(fits("part", tree[:-1]), tree)
            self.assertFalse(fits("part", tree + (("num", 1),)), tree)

    def test_parts(self):
        for tree in self.EXPRESSIONS:
            parts = trees.parts_of(tree)
            self.assertEqual(parts, tuple(direct_parts(tree)))
            self.assertEqual(trees.with_parts(tree, list(parts)), tree)
            other = [("num", number) for number in range(10, 10 + len(parts))]
            self.assertEqual(trees.parts_of(trees.with_parts(tree, other)), tuple(other))
            self.assertTrue(fits("part", trees.with_parts(tree, other)))

    def test_bodies(self):
        function = ("def", "f", ("x",), None, ("num", 1))
        clauses = (("a", "x", "s", ("num", 1)), ("b", "x", "s", ("num", 2)))
        end = ("x", "s", ("num", 3))
        for item in (function, ("handler", "h", clauses, end), ("handler", "h", (), end)):
            self.assertEqual(list(trees.bodies_of(item)), bodies(item))
            self.assertEqual(trees.with_bodies(item, bodies(item)), item)
            other = [("num", number) for number in range(10, 10 + len(bodies(item)))]
            self.assertEqual(bodies(trees.with_bodies(item, other)), other)

    def test_what_a_name_stands_for(self):
        self.assertEqual(trees.stands_for("p", ("p", "g")), "g")
        self.assertEqual(trees.stands_for("f", ("p", "g")), "f")
        self.assertEqual(trees.stands_for("f", (None, None)), "f")
        self.assertIsNone(trees.stands_for(None, ("p", "g")))
        self.assertIsNone(trees.stands_for(None, (None, None)))

    def test_clauses_and_ends(self):
        self.assertEqual(trees.CLAUSE_FORM, ("name", "name", "name", "part"))
        self.assertEqual(trees.END_FORM, ("name", "name", "part"))


if __name__ == "__main__":
    unittest.main()
