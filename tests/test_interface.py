"""The interface: which names stand in which file, and what their parameters are called."""

import importlib
import inspect
import unittest

FUNCTIONS = {
    "rows": {
        "less": "one other", "plus": "one other", "read_row": "text", "row_of": "first worths", "row_text": "row",
        "scaled": "row by", "shifted": "row by", "spread": "row", "times": "one other", "turned": "row",
        "worth": "row moment",
    },
    "division": {"common": "rows", "divided": "row by", "is_multiple": "row by", "plain": "row"},
}


class InterfaceTest(unittest.TestCase):

    def test_functions(self):
        for file, table in FUNCTIONS.items():
            module = importlib.import_module("earstogether." + file)
            for name, parameters in table.items():
                look = getattr(module, name)
                self.assertTrue(inspect.isfunction(look), name)
                self.assertEqual(look.__module__, "earstogether." + file)
                told = list(inspect.signature(look).parameters.values())
                self.assertEqual([part.name for part in told], parameters.split())
                for part in told:
                    self.assertEqual((part.kind, part.default), (part.POSITIONAL_OR_KEYWORD, part.empty))


if __name__ == "__main__":
    unittest.main()
