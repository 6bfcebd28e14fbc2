"""The interface: which names stand in which file, and what their parameters are called."""

import importlib
import inspect
import unittest

FUNCTIONS = {
    "rows": {
        "less": "one other", "plus": "one other", "read_row": "text", "row_of": "first worths", "row_text": "row",
        "scaled": "row by", "shifted": "row by", "spread": "row", "times": "one other", "turned": "row",
        "worth": "row moment",
    },
    "division": {"common": "rows", "divided": "row by", "is_multiple": "row by", "plain": "row"},
    "factors": {"factors": "row", "is_prime": "row"},
    "arrays": {
        "delays": "array", "ear_of": "array name", "heard": "array picture", "matrix": "array", "moved": "array step",
        "read_array": "text", "read_records": "array text", "records_text": "array records", "without": "array names",
    },
    "matrices": {
        "determinant": "matrix", "kernel": "matrix", "product": "one other", "rank": "matrix",
        "shows_kernel": "matrix value", "shows_solved": "matrix column value", "shows_stepped": "matrix value",
        "solved": "matrix column", "stepped": "matrix",
    },
    "pictures": {
        "ghosts": "array", "is_all_told": "array", "is_ghost": "array picture", "picture_of": "array records",
        "shares": "array picture", "shows_ghosts": "array value", "shows_picture_of": "array records value",
        "told": "array way",
    },
    "choirs": {
        "choirs": "array", "gains": "array choir", "only_endless": "array records", "outcome": "array choir records",
        "paper": "array records", "shows_choirs": "array value", "shows_paper": "array records value",
    },
    "needed": {
        "is_enough": "array names", "least_choirs": "array", "least_enough": "array", "least_for": "array way",
        "least_losses": "array", "least_losses_for": "array way", "lot_rank": "array names", "spare": "array",
        "tells": "array names way", "word_of_ear": "array name",
    },
    "late": {
        "all_lags": "array records late", "lags_of": "array records late", "put_back": "array records late lags",
        "shows_why_not": "array records late lags value", "why_not": "array records late lags",
        "word_of": "array records late name",
    },
}

CLASSES = {"arrays": {"Array": "ears ways"}}


class InterfaceTest(unittest.TestCase):

    def test_functions(self):
        for file, table in FUNCTIONS.items():
            module = importlib.import_module("earstogether." + file)
            for name, parameters in table.items():
                look = getattr(module, name)
                self.assertTrue(inspect.isfunction(look), name)
                self.assertEqual(look.__module__, "earstogether." + file)
                told = list(inspect.signature(look).parameters.values())
                self.assertEqual([part.name for part in told], parameters.split())
                for part in told:
                    self.assertEqual((part.kind, part.default), (part.POSITIONAL_OR_KEYWORD, part.empty))

    def test_classes(self):
        for file, table in CLASSES.items():
            module = importlib.import_module("earstogether." + file)
            for name, parameters in table.items():
                kind = getattr(module, name)
                self.assertTrue(inspect.isclass(kind), name)
                self.assertEqual(kind.__module__, "earstogether." + file)
                told = list(inspect.signature(kind).parameters.values())
                self.assertEqual([part.name for part in told], parameters.split())
                for part in told:
                    self.assertEqual((part.kind, part.default), (part.POSITIONAL_OR_KEYWORD, part.empty))


if __name__ == "__main__":
    unittest.main()
