"""Names and words: point 3; the forms of trees: points 4 and 5."""

import unittest

from deedwright import trees
from helper import WORDS


class Names(unittest.TestCase):
    def test_the_twelve_words(self):
        self.assertEqual(sorted(trees.WORDS), sorted(WORDS))
        self.assertEqual(len(trees.WORDS), 12)

    def test_the_four_signs(self):
        self.assertEqual(sorted(trees.SIGNS), ["*", "+", "-", "<"])

    def test_letters(self):
        for letter in "abcdefghijklmnopqrstuvwxyz":
            self.assertIs(trees.is_name(letter), True)

    def test_lengths(self):
        for length in range(1, 9):
            self.assertIs(trees.is_name("z" * length), True)
        for length in (0, 9, 10, 400):
            self.assertIs(trees.is_name("z" * length), False)

    def test_the_words_are_no_names(self):
        for word in WORDS:
            self.assertIs(trees.is_name(word), False)
            self.assertIs(trees.is_name(word + "x"), True)
            self.assertIs(trees.is_name("x" + word), len(word) < 8)

    def test_no_other_sign(self):
        for sign in [chr(number) for number in range(128)]:
            if not "a" <= sign <= "z":
                for word in (sign, "a" + sign, sign + "a", "a" + sign + "a"):
                    self.assertIs(trees.is_name(word), False)


class Forms(unittest.TestCase):
    def test_every_form_of_expression(self):
        self.assertEqual(
            trees.FORMS,
            {
                "num": ("number",),
                "var": ("name",),
                "op": ("sign", "part", "part"),
                "let": ("name", "part", "part"),
                "if": ("part", "part", "part"),
                "call": ("name", "block", "parts"),
                "do": ("name", "part"),
                "handle": ("name", "part", "part"),
                "go": ("part", "part"),
                "guard": ("part", "part"),
            },
        )

    def test_clauses_and_ends(self):
        self.assertEqual(trees.CLAUSE_FORM, ("name", "name", "name", "part"))
        self.assertEqual(trees.END_FORM, ("name", "name", "part"))


if __name__ == "__main__":
    unittest.main()
