"""Those rules of LANGUAGE.md that a short test can see, for every file of the package."""

import ast
import pathlib
import re
import unittest

PACKAGE = pathlib.Path(__file__).resolve().parent.parent / "forkbeats"
FILES = sorted(PACKAGE.glob("*.py"))
LIBRARY = {"heapq", "math", "itertools", "collections", "__future__"}
BUILTINS = {
    "len", "range", "enumerate", "zip", "min", "max", "sum", "abs", "sorted", "reversed", "int", "str", "bool",
    "list", "tuple", "dict", "set", "isinstance", "ord", "repr", "any", "all", "divmod", "pow", "getattr",
    "hasattr", "setattr", "iter", "next", "map", "super", "property", "staticmethod", "classmethod",
    "ValueError", "KeyError", "IndexError", "LookupError", "TypeError", "NotImplementedError", "NotImplemented",
}
BARRED = re.compile(
    r"\b(type|typing|enum|Enum|Generic|Protocol|namedtuple|TypedDict|abstractmethod)\b"
    r"|dataclass|overload|contextmanager|Meta|metaclass=|_wall")


def trees():
    """Return the path, the text and the tree of each file."""
    return [(path, path.read_text("utf-8"), ast.parse(path.read_text("utf-8"))) for path in FILES]


def bound_names(tree):
    """Return every name that the file binds."""
    found = {node.id for node in ast.walk(tree) if isinstance(node, ast.Name) and not isinstance(node.ctx, ast.Load)}
    for node in ast.walk(tree):
        if isinstance(node, (ast.FunctionDef, ast.ClassDef)):
            found.add(node.name)
        elif isinstance(node, ast.arg):
            found.add(node.arg)
        elif isinstance(node, ast.alias):
            found.add(node.asname or node.name)
        elif isinstance(node, ast.ExceptHandler) and node.name:
            found.add(node.name)
    return found


class LanguageTest(unittest.TestCase):
    def test_the_folder_contains_only_plain_files(self):
        others = [path.name for path in PACKAGE.iterdir() if path not in FILES and path.name != "__pycache__"]
        self.assertEqual(others, [])
        self.assertIn("__init__.py", [path.name for path in FILES])

    def test_size_and_characters(self):
        for path, text, _ in trees():
            lines = text.split("\n")
            self.assertLessEqual(len(lines), 399, path.name)
            self.assertLessEqual(max(map(len, lines)), 120, path.name)
            self.assertIsNone(re.search(r"[^ -~\n]", text), path.name)

    def test_the_size_of_functions(self):
        for path, _, tree in trees():
            for node in ast.walk(tree):
                if isinstance(node, ast.FunctionDef):
                    self.assertLessEqual(node.end_lineno - node.lineno + 1, 40, f"{path.name} {node.name}")

    def test_imports(self):
        for path, _, tree in trees():
            for node in ast.walk(tree):
                self.assertNotIsInstance(node, ast.Import, path.name)
                if isinstance(node, ast.ImportFrom):
                    self.assertEqual(node.level, 0, path.name)
                    self.assertIn(node, tree.body, path.name)
                    self.assertIn(node.module.split(".")[0], LIBRARY | {"forkbeats"}, path.name)

    def test_names_that_are_not_bound_are_allowed_builtins(self):
        for path, _, tree in trees():
            loaded = {node.id for node in ast.walk(tree) if isinstance(node, ast.Name)}
            self.assertLessEqual(loaded - bound_names(tree), BUILTINS, path.name)
            self.assertEqual(bound_names(tree) & BUILTINS, set(), path.name)

    def test_barred_words_and_statements(self):
        barred = (ast.Global, ast.AsyncFunctionDef, ast.Await, ast.Div, ast.TryStar)
        for path, text, tree in trees():
            self.assertIsNone(BARRED.search(text), path.name)
            for node in ast.walk(tree):
                self.assertNotIsInstance(node, barred, path.name)
                self.assertFalse(isinstance(node, ast.Constant) and isinstance(node.value, float), path.name)


if __name__ == "__main__":
    unittest.main()
