"""Those rules of LANGUAGE.md that a short test can see, for every file of the package."""

import ast
import pathlib
import re
import unittest

PACKAGE = pathlib.Path(__file__).resolve().parent.parent / "forkbeats"
FILES = sorted(PACKAGE.glob("*.py"))
LIBRARY = {"heapq", "math", "itertools", "collections", "__future__"}
BUILTINS = {
    "len", "range", "enumerate", "zip", "min", "max", "sum", "abs", "sorted", "reversed", "int", "str", "bool",
    "list", "tuple", "dict", "set", "isinstance", "ord", "repr", "any", "all", "divmod", "pow", "getattr",
    "hasattr", "setattr", "iter", "next", "map", "super", "property", "staticmethod", "classmethod",
    "ValueError", "KeyError", "IndexError", "LookupError", "TypeError", "NotImplementedError", "NotImplemented",
}
# The interface's order, with the modules that it does not list where they are first needed.
ORDER = [
    "errors", "words", "tunings", "facts", "notation", "bench", "graph", "fittings", "certificates", "verdicts",
    "plans", "scales", "drift", "desk",
]
BARRED_NAMES = re.compile(
    r"(_cold|_tuplegetter|_outside|_record|_written_out|_member_names)[0-9_]*"
    r"|_(wall|pe_|dcw_|enum_|cm_|twin_re_|lay_|law_|stub_|sre|WallAttr).*|register|mro|elements|open|input|law"
    r"|attrgetter|breakpoint|builtins|compile|copyright|credits|delattr|dir|eval|exec|exit|gc|globals|help|id"
    r"|importlib|license|locals|methodcaller|os|quit|sys|vars|bytearray|memoryview|print|hash|round|filter|format")
BARRED = re.compile(
    r"\b(type|typing|enum|Enum|Generic|Protocol|namedtuple|TypedDict|abstractmethod)\b"
    r"|dataclass|overload|contextmanager|Meta|metaclass=|_wall")


METHODS_OF_VALUES = {
    name for kind in (str, bytes, int, list, tuple, dict, set) for name in dir(kind) if not name.startswith("__")
}
GROWING = {"append", "extend", "insert", "pop", "remove", "clear", "update", "setdefault", "reverse"}


def trees():
    """Return the path, the text and the tree of each file."""
    return [(path, path.read_text("utf-8"), ast.parse(path.read_text("utf-8"))) for path in FILES]


def bound_names(tree):
    """Return every name that the file binds."""
    found = {node.id for node in ast.walk(tree) if isinstance(node, ast.Name) and not isinstance(node.ctx, ast.Load)}
    for node in ast.walk(tree):
        if isinstance(node, (ast.FunctionDef, ast.ClassDef)):
            found.add(node.name)
        elif isinstance(node, ast.arg):
            found.add(node.arg)
        elif isinstance(node, ast.alias):
            found.add(node.asname or node.name)
        elif isinstance(node, (ast.ExceptHandler, ast.MatchAs, ast.MatchStar)) and node.name:
            found.add(node.name)
    return found


def same_lists(function):
    """Return pairs of names of which one is assigned to the other in the function."""
    return [(target.id, node.value.id) for node in ast.walk(function) if isinstance(node, ast.Assign)
            for target in node.targets if isinstance(target, ast.Name) and isinstance(node.value, ast.Name)]


def changed_names(loop):
    """Return the names of what is changed in place in the loop."""
    found = set()
    for node in ast.walk(loop):
        if isinstance(node, ast.Call) and isinstance(node.func, ast.Attribute) and node.func.attr in GROWING:
            found |= {node.func.value.id} if isinstance(node.func.value, ast.Name) else set()
        elif isinstance(node, ast.Subscript) and not isinstance(node.ctx, ast.Load):
            found |= {node.value.id} if isinstance(node.value, ast.Name) else set()
    return found


def grown_in_loops(function):
    """Return the names that a loop walks while it changes them, or another name of theirs."""
    found = []
    for loop in ast.walk(function):
        if isinstance(loop, ast.For) and isinstance(loop.iter, ast.Name):
            changed = changed_names(loop)
            for left, right in same_lists(function):
                changed |= {left, right} if changed & {left, right} else set()
            found += [loop.iter.id] if loop.iter.id in changed else []
    return found


def captured_by(case):
    """Return the names that the pattern of a case captures."""
    parts = [part for part in ast.walk(case.pattern) if isinstance(part, (ast.MatchAs, ast.MatchStar))]
    return {part.name for part in parts if part.name}


def own_names(node):
    """Return the names that the node gives or reads itself, without what stands in it."""
    if isinstance(node, ast.Name):
        return {node.id}
    if isinstance(node, ast.arg):
        return {node.arg}
    if isinstance(node, (ast.FunctionDef, ast.ExceptHandler)):
        return {node.name}
    return set(node.names) if isinstance(node, ast.Nonlocal) else set()


def strays_in(node, captured, held):
    """Return those captured names that the node gives, or reads where no case around it holds them."""
    if isinstance(node, ast.match_case):
        # A case within a case that holds the name already captures it again.
        found = captured_by(node) & held
        held = held | captured_by(node)
        parts = node.body + [node.guard] if node.guard else node.body
    else:
        is_read = isinstance(node, ast.Name) and isinstance(node.ctx, ast.Load)
        found = own_names(node) & captured - (held if is_read else set())
        parts = list(ast.iter_child_nodes(node))
    if isinstance(node, (ast.FunctionDef, ast.Lambda)):
        held = set()
    return found.union(*[strays_in(part, captured, held) for part in parts])


def stray_captures(function):
    """Return the names that cases of the function capture and that it also gives, or reads outside of these cases."""
    cases = [node for node in ast.walk(function) if isinstance(node, ast.match_case)]
    captured = set().union(*map(captured_by, cases))
    return set().union(*[strays_in(part, captured, set()) for part in (function.args, *function.body)])


class LanguageTest(unittest.TestCase):
    def test_the_folder_contains_only_plain_files(self):
        others = [path.name for path in PACKAGE.iterdir() if path not in FILES and path.name != "__pycache__"]
        self.assertEqual(others, [])
        self.assertIn("__init__.py", [path.name for path in FILES])

    def test_size_and_characters(self):
        for path, text, _ in trees():
            lines = text.split("\n")
            self.assertLessEqual(len(lines), 399, path.name)
            self.assertLessEqual(max(map(len, lines)), 120, path.name)
            self.assertIsNone(re.search(r"[^ -~\n]", text), path.name)

    def test_the_size_of_functions(self):
        for path, _, tree in trees():
            for node in ast.walk(tree):
                if isinstance(node, ast.FunctionDef):
                    self.assertLessEqual(node.end_lineno - node.lineno + 1, 40, f"{path.name} {node.name}")

    def test_imports(self):
        for path, _, tree in trees():
            for node in ast.walk(tree):
                self.assertNotIsInstance(node, ast.Import, path.name)
                if isinstance(node, ast.ImportFrom):
                    self.assertEqual(node.level, 0, path.name)
                    self.assertIn(node, tree.body, path.name)
                    self.assertIn(node.module.split(".")[0], LIBRARY | {"forkbeats"}, path.name)

    def test_each_module_needs_only_modules_above_it(self):
        self.assertEqual({path.stem for path in FILES}, {"__init__", *ORDER})
        for path, _, tree in trees():
            for node in ast.walk(tree):
                if isinstance(node, ast.ImportFrom) and node.module.startswith("forkbeats."):
                    needed = node.module.removeprefix("forkbeats.")
                    self.assertIn(needed, ORDER[:ORDER.index(path.stem)], path.name)

    def test_names_that_are_barred(self):
        for path, _, tree in trees():
            stored = {node.attr for node in ast.walk(tree)
                      if isinstance(node, ast.Attribute) and isinstance(node.ctx, ast.Store)}
            for name in bound_names(tree) | stored:
                self.assertIsNone(BARRED_NAMES.fullmatch(name), f"{path.name} {name}")
                self.assertRegex(name, "^(_?[A-Za-z][A-Za-z0-9_]*|_|__[a-z]+__)$", path.name)

    def test_stars_stand_before_names_alone(self):
        for path, _, tree in trees():
            for node in ast.walk(tree):
                if isinstance(node, ast.Starred):
                    self.assertIsInstance(node.value, ast.Name, path.name)

    def test_stars_stand_in_calls_that_are_plainly_own_ones(self):
        found = [tree for _, _, tree in trees()]
        functions = {node.name for tree in found for node in tree.body
                     if isinstance(node, (ast.FunctionDef, ast.ClassDef))}
        methods = {node.name for tree in found for kind in tree.body if isinstance(kind, ast.ClassDef)
                   for node in kind.body if isinstance(node, ast.FunctionDef)}
        plain = functions | {"max", "min", "zip"}
        for path, _, tree in trees():
            for node in ast.walk(tree):
                if not isinstance(node, ast.Call) or not any(isinstance(arg, ast.Starred) for arg in node.args):
                    continue
                if isinstance(node.func, ast.Name):
                    self.assertIn(node.func.id, plain, f"{path.name} {node.lineno}")
                else:
                    self.assertIn(node.func.attr, methods - METHODS_OF_VALUES, f"{path.name} {node.lineno}")

    def test_loops_walk_nothing_that_may_grow_in_them(self):
        for path, _, tree in trees():
            for function in ast.walk(tree):
                if isinstance(function, ast.FunctionDef):
                    self.assertEqual(grown_in_loops(function), [], f"{path.name} {function.name}")

    def test_captured_names_stand_in_their_own_cases_alone(self):
        many = 0
        for path, _, tree in trees():
            for function in ast.walk(tree):
                if isinstance(function, ast.FunctionDef):
                    many += any(isinstance(node, ast.Match) for node in ast.walk(function))
                    self.assertEqual(stray_captures(function), set(), f"{path.name} {function.name}")
        self.assertGreater(many, 0)

    def assert_strays(self, names, *rows):
        """Check which names are strays in a function whose match has these rows."""
        head = ["def told(leaf):", "    match leaf:"]
        text = "\n".join(head + ["        " + row for row in rows])
        self.assertEqual(stray_captures(ast.parse(text).body[0]), set(names.split()), text)

    def test_captures_that_stand_in_their_own_cases(self):
        self.assert_strays("", "case 1:", "    leaf = walk = 2")
        self.assert_strays("", "case [walk]:", "    return walk", "case [1, walk] if walk:", "    return [walk]")
        self.assert_strays("", "case [walk, _]:", "    return [row for row in walk]", "case [*others]:", "    pass")
        self.assert_strays("", "case [1 | 2 as a]:", "    match a:", "        case [b]:", "            return a, b")

    def test_captures_that_are_given_by_more_than_cases(self):
        self.assert_strays("walk", "case [walk]:", "    pass", "case [a]:", "    return [walk for walk in a]")
        self.assert_strays("row", "case [walk]:", "    return [row for row in walk]", "case [*row]:", "    pass")
        self.assert_strays("walk", "case [walk]:", "    return {walk: 1 for walk in leaf}")
        self.assert_strays("a b", "case [a, *b]:", "    a = 1", "    b += 1")
        self.assert_strays("a b", "case [a, b]:", "    for a, (b, c) in leaf:", "        pass")
        self.assert_strays("leaf", "case [leaf]:", "    pass")
        self.assert_strays("a", "case [a]:", "    match leaf:", "        case [1, a]:", "            return a")
        self.assert_strays("a", "case [a]:", "    try:", "        pass", "    except KeyError as a:", "        pass")
        self.assert_strays("a b", "case [a, b]:", "    def a(c):", "        nonlocal b", "        return c")
        self.assert_strays("a", "case [a]:", "    del a")
        self.assert_strays("a", "case [a]:", "    if a := 1:", "        pass")

    def test_captures_that_are_read_elsewhere(self):
        self.assert_strays("walk", "case [walk]:", "    pass", "case [a]:", "    return walk")
        self.assert_strays("a", "case [a]:", "    pass", "case [b] if a:", "    pass")
        self.assert_strays("a", "case [1 as a]:", "    return lambda: a")
        self.assert_strays("a", "case [*a]:", "    def inner():", "        return a", "    return inner")
        text = "def told(leaf):\n    match leaf:\n        case [a]:\n            pass\n    return a"
        self.assertEqual(stray_captures(ast.parse(text).body[0]), {"a"})

    def test_functions_do_not_repeat_names_of_their_file(self):
        for path, _, tree in trees():
            top = {node.name for node in tree.body if isinstance(node, (ast.FunctionDef, ast.ClassDef))}
            top |= {alias.name for node in tree.body if isinstance(node, ast.ImportFrom) for alias in node.names}
            inner = [name for node in ast.walk(tree) if isinstance(node, ast.FunctionDef)
                     for part in node.args.args + node.body for name in bound_names(part)]
            self.assertEqual(top & set(inner), set(), path.name)

    def test_names_that_are_not_bound_are_allowed_builtins(self):
        for path, _, tree in trees():
            loaded = {node.id for node in ast.walk(tree) if isinstance(node, ast.Name)}
            self.assertLessEqual(loaded - bound_names(tree), BUILTINS, path.name)
            self.assertEqual(bound_names(tree) & BUILTINS, set(), path.name)

    def test_barred_words_and_statements(self):
        barred = (ast.Global, ast.AsyncFunctionDef, ast.Await, ast.Div, ast.TryStar)
        for path, text, tree in trees():
            self.assertIsNone(BARRED.search(text), path.name)
            for node in ast.walk(tree):
                self.assertNotIsInstance(node, barred, path.name)
                self.assertFalse(isinstance(node, ast.Constant) and isinstance(node.value, float), path.name)


if __name__ == "__main__":
    unittest.main()
