"""The interface: what is to be there under its name, with its arguments."""

import importlib
import inspect
import unittest

# The arguments of each function; those that may be left out stand with what they are then.
FUNCTIONS = {
    "reader": {"read": "(text)"},
    "writer": {"shown": "(program)"},
    "checks": {"check": "(program)"},
    "bits": {
        "deeds_of": "(program)",
        "row_by": "(some, deeds)",
        "told": "(row, deeds)",
        "less": "(row, other)",
    },
    "openrows": {
        "opened": "(own, lets)",
        "filled": "(one, r)",
        "joined": "(one, other)",
        "without": "(one, row)",
        "behind": "(one, other)",
        "within": "(one, other)",
    },
    "found": {
        "open_rows": "(program)",
        "fits": "(program, table)",
        "row_of": "(program, name, block=None)",
    },
    "ways": {"way": "(program, spot, deed)", "let_by": "(program, f, hands=None)"},
    "walk": {
        "begun": "(program, f, numbers, turns)",
        "gone_on": "(halt, answer)",
        "run": "(program, f, numbers, answers, turns)",
    },
    "clauses": {"kind_of": "(E)", "lasts": "(E)"},
    "code": {"code_of": "(program, f, taken=None)"},
    "machine": {"run_code": "(code, numbers, answers, turns)"},
    "moves": {
        "steady": "(program, h)",
        "may_turn": "(program, one, other)",
        "turned": "(program, one, other)",
        "eased": "(program)",
    },
}


def of(file):
    """A file of the package."""
    return importlib.import_module("deedwright." + file)


class Interface(unittest.TestCase):
    def test_functions(self):
        for file, functions in FUNCTIONS.items():
            for name, arguments in functions.items():
                with self.subTest(file=file, name=name):
                    self.assertEqual(str(inspect.signature(getattr(of(file), name))), arguments)

    def test_classes(self):
        self.assertEqual(str(inspect.signature(of("desk").Desk)), "()")
        self.assertEqual(str(inspect.signature(of("desk").Desk().say)), "(row)")
        halt = of("walk").begun(of("reader").read("(def f () 1)"), "f", [], 1)
        self.assertIsInstance(halt, of("walk").Halt)
        self.assertEqual((halt.end, halt.record, halt.used), (("done", 1), [], 0))


if __name__ == "__main__":
    unittest.main()
