"""What the tests of the reader share."""

import unittest

from deedwright.errors import NoText
from deedwright.reader import read

WORDS = "def handler on end let if call hand do handle go guard".split()
END = "(end x s x)"


def in_function(text):
    """The text of a program with one function, whose body a text writes."""
    return "(def f () " + text + ")"


class ReaderCase(unittest.TestCase):
    """Asks what a text is read to, or that it is refused."""

    def reads(self, text, program):
        # By their repr, which tells tuples from lists and 1 from True.
        with self.subTest(text=text[:80]):
            self.assertEqual(repr(read(text)), repr(program))

    def reads_body(self, text, body):
        self.reads(in_function(text), (("def", "f", (), None, body),))

    def refuses(self, text):
        with self.subTest(text=text[:80]):
            with self.assertRaises(ValueError) as caught:
                read(text)
            self.assertIs(type(caught.exception), NoText)

    def refuses_body(self, text):
        self.refuses(in_function(text))
