"""Those rules of the language subset that a look at the files can tell."""

import ast
import builtins
import os
import unittest

ROOT = os.path.dirname(os.path.dirname(os.path.abspath(__file__)))
PACKAGE = os.path.join(ROOT, "earstogether")

LIBRARY = {
    "heapq": {"heappush", "heappop", "heapify", "heapreplace", "heappushpop"},
    "math": {"gcd", "lcm", "isqrt", "comb", "perm", "factorial"},
    "itertools": {
        "product", "combinations", "permutations", "chain", "accumulate", "pairwise", "islice", "zip_longest",
    },
    "collections": {"defaultdict", "deque"},
}

BARRED = (
    ast.AsyncFunctionDef, ast.AsyncFor, ast.AsyncWith, ast.Await, ast.Import, ast.Div, ast.MatMult,
)

METHODS = set((
    "append clear copy count endswith extend find get index insert isalnum isalpha isascii isdigit islower isspace "
    "isupper items join keys ljust lower lstrip partition pop remove replace reverse rfind rjust rpartition rsplit "
    "rstrip setdefault split splitlines startswith strip update upper values zfill bit_length"
).split())

BUILTINS = set((
    "len range enumerate zip min max sum abs sorted reversed int str bool list tuple dict set isinstance ord repr any "
    "all divmod type ValueError"
).split())


# An example that is run may leave a `_` there.
PYTHONS_OWN = set(dir(builtins)) - {"_"}


def files():
    return [name for name in sorted(os.listdir(PACKAGE)) if name != "__pycache__"]


def text_of(name):
    with open(os.path.join(PACKAGE, name), encoding="utf-8", newline="") as file:
        return file.read()


def nodes():
    return [(name, node) for name in files() for node in ast.walk(ast.parse(text_of(name)))]


def functions():
    return [(name, node) for name, node in nodes() if isinstance(node, (ast.FunctionDef, ast.Lambda))]


def names_bound_in(node):
    """The parameters and variables of a function, those of comprehensions and nested functions too."""
    inner = [part for part in ast.walk(node)]
    found = {part.arg for part in inner if isinstance(part, ast.arg)}
    return found | {part.id for part in inner if isinstance(part, ast.Name) and isinstance(part.ctx, ast.Store)}


def names_of_file(name):
    """The imports and classes of a file."""
    body = ast.parse(text_of(name)).body
    found = {part.name for part in body if isinstance(part, ast.ClassDef)}
    return found | {word.name for part in body if isinstance(part, ast.ImportFrom) for word in part.names}


def own_imports():
    table = {}
    for name, node in nodes():
        if isinstance(node, ast.ImportFrom) and node.module.startswith("earstogether."):
            table.setdefault(name[:-3], []).append(node.module.split(".")[1])
    return table


def reached(table, name, seen):
    for other in table.get(name, []):
        if other not in seen:
            seen.add(other)
            reached(table, other, seen)
    return seen


class LanguageTest(unittest.TestCase):

    def test_files(self):
        for name in files():
            self.assertRegex(name, r"\A[a-z_][a-z0-9_]*\.py\Z")
        self.assertLessEqual(len(files()), 100)

    def test_sizes_and_signs(self):
        for name in files():
            text = text_of(name)
            lines = text.split("\n")
            self.assertLess(len(lines), 400, name)
            self.assertLessEqual(max([len(line) for line in lines]), 120, name)
            self.assertTrue(all([sign == "\n" or " " <= sign <= "~" for sign in text]), name)

    def test_functions_have_40_lines_at_most(self):
        for name, node in nodes():
            if isinstance(node, ast.FunctionDef):
                self.assertLessEqual(node.end_lineno - node.lineno + 1, 40, (name, node.name))

    def test_imports(self):
        for name, node in nodes():
            if isinstance(node, ast.ImportFrom):
                words = [part.name for part in node.names]
                self.assertEqual((node.level, [part.asname for part in node.names]), (0, [None] * len(words)), name)
                if node.module in LIBRARY:
                    self.assertLessEqual(set(words), LIBRARY[node.module], name)
                else:
                    self.assertIn(node.module.split(".")[1] + ".py", files(), name)

    def test_imports_name_the_file_that_defines(self):
        for name, node in nodes():
            if isinstance(node, ast.ImportFrom) and node.module not in LIBRARY:
                body = ast.parse(text_of(node.module.split(".")[1] + ".py")).body
                defined = [part.name for part in body if isinstance(part, (ast.FunctionDef, ast.ClassDef))]
                defined += [part.targets[0].id for part in body if isinstance(part, ast.Assign)]
                self.assertLessEqual({part.name for part in node.names}, set(defined), name)

    def test_no_files_import_each_other(self):
        table = own_imports()
        for name in table:
            self.assertNotIn(name, reached(table, name, set()))

    def test_module_level(self):
        for name in files():
            for at, node in enumerate(ast.parse(text_of(name)).body):
                if isinstance(node, ast.Expr):
                    self.assertTrue(at == 0 and isinstance(node.value, ast.Constant), name)
                else:
                    self.assertIsInstance(node, (ast.ImportFrom, ast.FunctionDef, ast.ClassDef, ast.Assign), name)

    def test_nothing_barred(self):
        for name, node in nodes():
            self.assertNotIsInstance(node, BARRED, (name, getattr(node, "lineno", None)))
            if isinstance(node, ast.Constant):
                self.assertNotIsInstance(node.value, (float, complex), name)

    def test_no_generator_expressions_and_no_percent_in_strings(self):
        for name, node in nodes():
            self.assertNotIsInstance(node, ast.GeneratorExp, name)
            if isinstance(node, ast.Constant) and isinstance(node.value, str):
                self.assertNotIn("%", node.value, name)

    def test_no_variable_is_called_as_a_class_an_import_or_a_builtin(self):
        for name, node in functions():
            bound = names_bound_in(node)
            self.assertEqual(bound & names_of_file(name), set(), (name, node.lineno))
            self.assertEqual(bound & PYTHONS_OWN, set(), (name, node.lineno))
            if isinstance(node, ast.FunctionDef):
                self.assertNotIn(node.name, PYTHONS_OWN, name)

    def test_all_imports_are_used(self):
        for name in files():
            tree = ast.parse(text_of(name))
            used = {node.id for node in ast.walk(tree) if isinstance(node, ast.Name)}
            for node in tree.body:
                if isinstance(node, ast.ImportFrom):
                    self.assertLessEqual({part.name for part in node.names}, used, name)

    def test_methods_and_builtins(self):
        own = {node.name for _, node in functions() if isinstance(node, ast.FunctionDef)}
        for name, node in nodes():
            if isinstance(node, ast.Call) and isinstance(node.func, ast.Attribute):
                self.assertIn(node.func.attr, METHODS | own, (name, node.lineno))
            if isinstance(node, ast.Name) and node.id in PYTHONS_OWN:
                self.assertIn(node.id, BUILTINS, (name, node.lineno))

    def test_is_beside_none_or_a_kind(self):
        for name, node in nodes():
            if isinstance(node, ast.Compare) and isinstance(node.ops[0], (ast.Is, ast.IsNot)):
                told = ast.unparse(node.comparators[0])
                self.assertIn(told, ("None", "True", "False", "int", "str", "tuple"), (name, node.lineno))
                if told in ("int", "str", "tuple"):
                    self.assertTrue(ast.unparse(node.left).startswith("type("), (name, node.lineno))

    def test_stars_stand_before_plain_names_in_targets(self):
        for name, node in nodes():
            if isinstance(node, ast.Starred) and isinstance(node.ctx, ast.Store):
                self.assertIsInstance(node.value, ast.Name, (name, node.lineno))

    def test_no_name_is_a_method_and_an_attribute(self):
        methods, attributes = set(), set()
        for _, node in nodes():
            if isinstance(node, ast.ClassDef):
                methods |= {part.name for part in node.body if isinstance(part, ast.FunctionDef)}
            if isinstance(node, ast.Attribute) and isinstance(node.ctx, ast.Store):
                attributes.add(node.attr)
        self.assertEqual(methods & attributes, set())
        self.assertEqual(attributes & METHODS, set())

    def test_powers_have_a_small_literal_exponent(self):
        for name, node in nodes():
            if isinstance(node, ast.BinOp) and isinstance(node.op, ast.Pow):
                self.assertIsInstance(node.right, ast.Constant, name)
                self.assertLessEqual(node.right.value, 64, name)


if __name__ == "__main__":
    unittest.main()
