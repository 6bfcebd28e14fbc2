"""The interface: which names stand in which file, and what their parameters are called."""

import importlib
import inspect
import unittest

FUNCTIONS = {
    "rows": {
        "less": "one other", "plus": "one other", "read_row": "text", "row_of": "first worths", "row_text": "row",
        "scaled": "row by", "shifted": "row by", "spread": "row", "times": "one other", "turned": "row",
        "worth": "row moment",
    },
    "division": {"common": "rows", "divided": "row by", "is_multiple": "row by", "plain": "row"},
    "factors": {"factors": "row", "is_prime": "row"},
    "arrays": {
        "delays": "array", "ear_of": "array name", "heard": "array picture", "matrix": "array", "moved": "array step",
        "read_array": "text", "read_records": "array text", "records_text": "array records", "without": "array names",
    },
    "matrices": {
        "determinant": "matrix", "kernel": "matrix", "product": "one other", "rank": "matrix",
        "shows_kernel": "matrix value", "shows_solved": "matrix column value", "shows_stepped": "matrix value",
        "solved": "matrix column", "stepped": "matrix",
    },
}

CLASSES = {"arrays": {"Array": "ears ways"}}


class InterfaceTest(unittest.TestCase):

    def test_functions(self):
        for file, table in FUNCTIONS.items():
            module = importlib.import_module("earstogether." + file)
            for name, parameters in table.items():
                look = getattr(module, name)
                self.assertTrue(inspect.isfunction(look), name)
                self.assertEqual(look.__module__, "earstogether." + file)
                told = list(inspect.signature(look).parameters.values())
                self.assertEqual([part.name for part in told], parameters.split())
                for part in told:
                    self.assertEqual((part.kind, part.default), (part.POSITIONAL_OR_KEYWORD, part.empty))

    def test_classes(self):
        for file, table in CLASSES.items():
            module = importlib.import_module("earstogether." + file)
            for name, parameters in table.items():
                kind = getattr(module, name)
                self.assertTrue(inspect.isclass(kind), name)
                self.assertEqual(kind.__module__, "earstogether." + file)
                told = list(inspect.signature(kind).parameters.values())
                self.assertEqual([part.name for part in told], parameters.split())
                for part in told:
                    self.assertEqual((part.kind, part.default), (part.POSITIONAL_OR_KEYWORD, part.empty))


if __name__ == "__main__":
    unittest.main()
