"""The interface: which names stand in which file, and what their parameters are called."""

import importlib
import inspect
import unittest

FUNCTIONS = {
    "rows": {
        "less": "one other", "plus": "one other", "read_row": "text", "row_of": "first worths", "row_text": "row",
        "scaled": "row by", "shifted": "row by", "spread": "row", "times": "one other", "turned": "row",
        "worth": "row moment",
    },
    "division": {"common": "rows", "divided": "row by", "is_multiple": "row by", "plain": "row"},
    "factors": {"factors": "row", "is_prime": "row"},
    "arrays": {
        "delays": "array", "ear_of": "array name", "heard": "array picture", "matrix": "array", "moved": "array step",
        "read_array": "text", "read_records": "array text", "records_text": "array records", "without": "array names",
    },
    "matrices": {
        "determinant": "matrix", "kernel": "matrix", "product": "one other", "rank": "matrix",
        "shows_kernel": "matrix value", "shows_solved": "matrix column value", "shows_stepped": "matrix value",
        "solved": "matrix column", "stepped": "matrix",
    },
    "pictures": {
        "ghosts": "array", "is_all_told": "array", "is_ghost": "array picture", "picture_of": "array records",
        "shares": "array picture", "shows_ghosts": "array value", "shows_picture_of": "array records value",
        "told": "array way",
    },
    "choirs": {
        "choirs": "array", "gains": "array choir", "only_endless": "array records", "outcome": "array choir records",
        "paper": "array records", "shows_choirs": "array value", "shows_paper": "array records value",
    },
    "needed": {
        "is_enough": "array names", "least_choirs": "array", "least_enough": "array", "least_for": "array way",
        "least_losses": "array", "least_losses_for": "array way", "lot_rank": "array names", "spare": "array",
        "tells": "array names way", "word_of_ear": "array name",
    },
    "late": {
        "all_lags": "array records late", "lags_of": "array records late", "put_back": "array records late lags",
        "shows_why_not": "array records late lags value", "why_not": "array records late lags",
        "word_of": "array records late name",
    },
    "lying": {
        "picture_but": "array records names", "safe": "array", "shows_picture_but": "array records names value",
        "sole": "array records most", "stories": "array records most", "surely_lying": "array records most",
        "surely_true": "array records most", "word_of_one": "array records most name",
    },
    "correlations": {
        "all_alike": "row", "are_alike": "one other", "correlation": "one other", "form_of": "row",
        "pairs_with": "first cross second", "rows_with": "row", "shared": "one other", "shows_shared": "one other value",
    },
    "drawings": {"bars": "row first many step", "signs": "rows first many"},
    "journals": {"journal": "bench", "read_journal": "text"},
}

CLASSES = {
    "arrays": {"Array": "ears ways"}, "keeping": {"Station": "ways"}, "benches": {"Bench": "ways"}, "desk": {"Desk": "text"},
}

METHODS = {
    "keeping Station": {
        "put": "name place", "take": "name", "hear": "name first worths", "unhear": "name first last", "holes": "name",
        "array": "", "picture": "", "ghosts": "", "copy": "",
    },
    "benches Bench": {
        "station": "", "do": "line", "undo": "", "redo": "", "tried": "look keep", "keep": "", "copy": "", "__len__": "",
    },
    "desk Desk": {"say": "line"},
}

EARS, WAYS = (("a", (0,)),), ((1,), (2,))
JOURNAL = "way 1\ndeeds"

ATTRIBUTES = {
    "arrays Array": ((EARS, WAYS), "ears ways names text"), "keeping Station": ((WAYS,), "ways ears ready records work"),
    "benches Bench": ((WAYS,), "ways deeds"), "desk Desk": ((JOURNAL,), "bench"),
}


def kind_of(words):
    file, name = words.split()
    return getattr(importlib.import_module("earstogether." + file), name)


class InterfaceTest(unittest.TestCase):

    def test_functions(self):
        for file, table in FUNCTIONS.items():
            module = importlib.import_module("earstogether." + file)
            for name, parameters in table.items():
                look = getattr(module, name)
                self.assertTrue(inspect.isfunction(look), name)
                self.assertEqual(look.__module__, "earstogether." + file)
                told = list(inspect.signature(look).parameters.values())
                self.assertEqual([part.name for part in told], parameters.split())
                for part in told:
                    self.assertEqual((part.kind, part.default), (part.POSITIONAL_OR_KEYWORD, part.empty))

    def test_classes(self):
        for file, table in CLASSES.items():
            module = importlib.import_module("earstogether." + file)
            for name, parameters in table.items():
                kind = getattr(module, name)
                self.assertTrue(inspect.isclass(kind), name)
                self.assertEqual(kind.__module__, "earstogether." + file)
                told = list(inspect.signature(kind).parameters.values())
                self.assertEqual([part.name for part in told], parameters.split())
                for part in told:
                    self.assertEqual((part.kind, part.default), (part.POSITIONAL_OR_KEYWORD, part.empty))

    def test_methods_stand_in_the_class_itself(self):
        for words, table in METHODS.items():
            for name, parameters in table.items():
                look = vars(kind_of(words))[name]
                self.assertTrue(inspect.isfunction(look), name)
                told = list(inspect.signature(look).parameters.values())
                self.assertEqual([part.name for part in told], ["self", *parameters.split()])
                for part in told:
                    if part.name == "keep":
                        self.assertEqual((part.kind, part.default), (part.KEYWORD_ONLY, False))
                    else:
                        self.assertEqual((part.kind, part.default), (part.POSITIONAL_OR_KEYWORD, part.empty))

    def test_attributes_are_there_from_the_first(self):
        for words, (arguments, names) in ATTRIBUTES.items():
            thing = kind_of(words)(*arguments)
            for name in names.split():
                self.assertFalse(callable(getattr(thing, name)), (words, name))

    def test_equality_stands_in_the_class_itself(self):
        for words in ("arrays Array", "keeping Station", "benches Bench"):
            self.assertIn("__eq__", vars(kind_of(words)))


if __name__ == "__main__":
    unittest.main()
