"""Those rules of the language subset that a look at the files can tell."""

import ast
import os
import unittest

ROOT = os.path.dirname(os.path.dirname(os.path.abspath(__file__)))
PACKAGE = os.path.join(ROOT, "earstogether")

LIBRARY = {
    "heapq": {"heappush", "heappop", "heapify", "heapreplace", "heappushpop"},
    "math": {"gcd", "lcm", "isqrt", "comb", "perm", "factorial"},
    "itertools": {
        "product", "combinations", "permutations", "chain", "accumulate", "pairwise", "islice", "zip_longest",
    },
    "collections": {"defaultdict", "deque"},
}

BARRED = (
    ast.AsyncFunctionDef, ast.AsyncFor, ast.AsyncWith, ast.Await, ast.Import, ast.Div, ast.MatMult,
)


def files():
    return [name for name in sorted(os.listdir(PACKAGE)) if name != "__pycache__"]


def text_of(name):
    with open(os.path.join(PACKAGE, name), encoding="utf-8", newline="") as file:
        return file.read()


def nodes():
    return [(name, node) for name in files() for node in ast.walk(ast.parse(text_of(name)))]


def own_imports():
    table = {}
    for name, node in nodes():
        if isinstance(node, ast.ImportFrom) and node.module.startswith("earstogether."):
            table.setdefault(name[:-3], []).append(node.module.split(".")[1])
    return table


def reached(table, name, seen):
    for other in table.get(name, []):
        if other not in seen:
            seen.add(other)
            reached(table, other, seen)
    return seen


class LanguageTest(unittest.TestCase):

    def test_files(self):
        for name in files():
            self.assertRegex(name, r"\A[a-z_][a-z0-9_]*\.py\Z")
        self.assertLessEqual(len(files()), 100)

    def test_sizes_and_signs(self):
        for name in files():
            text = text_of(name)
            lines = text.split("\n")
            self.assertLess(len(lines), 400, name)
            self.assertLessEqual(max([len(line) for line in lines]), 120, name)
            self.assertTrue(all([sign == "\n" or " " <= sign <= "~" for sign in text]), name)

    def test_functions_have_40_lines_at_most(self):
        for name, node in nodes():
            if isinstance(node, ast.FunctionDef):
                self.assertLessEqual(node.end_lineno - node.lineno + 1, 40, (name, node.name))

    def test_imports(self):
        for name, node in nodes():
            if isinstance(node, ast.ImportFrom):
                words = [part.name for part in node.names]
                self.assertEqual((node.level, [part.asname for part in node.names]), (0, [None] * len(words)), name)
                if node.module in LIBRARY:
                    self.assertLessEqual(set(words), LIBRARY[node.module], name)
                else:
                    self.assertIn(node.module.split(".")[1] + ".py", files(), name)

    def test_imports_name_the_file_that_defines(self):
        for name, node in nodes():
            if isinstance(node, ast.ImportFrom) and node.module not in LIBRARY:
                body = ast.parse(text_of(node.module.split(".")[1] + ".py")).body
                defined = [part.name for part in body if isinstance(part, (ast.FunctionDef, ast.ClassDef))]
                defined += [part.targets[0].id for part in body if isinstance(part, ast.Assign)]
                self.assertLessEqual({part.name for part in node.names}, set(defined), name)

    def test_no_files_import_each_other(self):
        table = own_imports()
        for name in table:
            self.assertNotIn(name, reached(table, name, set()))

    def test_module_level(self):
        for name in files():
            for at, node in enumerate(ast.parse(text_of(name)).body):
                if isinstance(node, ast.Expr):
                    self.assertTrue(at == 0 and isinstance(node.value, ast.Constant), name)
                else:
                    self.assertIsInstance(node, (ast.ImportFrom, ast.FunctionDef, ast.ClassDef, ast.Assign), name)

    def test_nothing_barred(self):
        for name, node in nodes():
            self.assertNotIsInstance(node, BARRED, (name, getattr(node, "lineno", None)))
            if isinstance(node, ast.Constant):
                self.assertNotIsInstance(node.value, (float, complex), name)

    def test_no_generator_expressions_and_no_percent_in_strings(self):
        for name, node in nodes():
            self.assertNotIsInstance(node, ast.GeneratorExp, name)
            if isinstance(node, ast.Constant) and isinstance(node.value, str):
                self.assertNotIn("%", node.value, name)

    def test_powers_have_a_small_literal_exponent(self):
        for name, node in nodes():
            if isinstance(node, ast.BinOp) and isinstance(node.op, ast.Pow):
                self.assertIsInstance(node.right, ast.Constant, name)
                self.assertLessEqual(node.right.value, 64, name)


if __name__ == "__main__":
    unittest.main()
