"""The refusals: the interface, under deedwright/errors.py."""

import unittest

from deedwright import errors

REFUSALS = ("NoText", "NoName", "NoCount", "NoGo", "NoHold", "NoTurn", "NoRow", "Lacking")


class Classes(unittest.TestCase):
    def test_any_refusal_is_a_value_error(self):
        self.assertIs(errors.WrightError.__mro__[1], ValueError)

    def test_each_is_a_wright_error(self):
        for name in REFUSALS:
            with self.subTest(name=name):
                self.assertTrue(issubclass(getattr(errors, name), errors.WrightError))

    def test_none_is_under_another(self):
        for one in REFUSALS:
            for other in REFUSALS:
                with self.subTest(one=one, other=other):
                    under = issubclass(getattr(errors, one), getattr(errors, other))
                    self.assertEqual(under, one == other)

    def test_each_is_raised_and_taken_by_its_name(self):
        for name in REFUSALS[:-1]:
            kind = getattr(errors, name)
            with self.subTest(name=name), self.assertRaises(kind):
                raise kind("why")


class LackingFields(unittest.TestCase):
    def test_fields(self):
        refusal = errors.Lacking("ask", [("def", "main", None), ("handler", "h", None)])
        self.assertEqual(refusal.deed, "ask")
        self.assertEqual(refusal.way, [("def", "main", None), ("handler", "h", None)])

    def test_the_fields_are_there_when_it_is_caught(self):
        with self.assertRaises(errors.Lacking) as caught:
            raise errors.Lacking("tell", [("def", "f", "g")])
        self.assertEqual(caught.exception.deed, "tell")
        self.assertEqual(caught.exception.way, [("def", "f", "g")])

    def test_the_way_is_a_list_of_its_own(self):
        handed = [("def", "main", None)]
        refusal = errors.Lacking("ask", handed)
        handed.append(("def", "f", None))
        self.assertEqual(refusal.way, [("def", "main", None)])
        refusal.way.clear()
        self.assertEqual(handed, [("def", "main", None), ("def", "f", None)])


if __name__ == "__main__":
    unittest.main()
