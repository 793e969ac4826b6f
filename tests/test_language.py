"""Some of the rules of the language that can be seen in the text of the package."""

import ast
import builtins
from pathlib import Path
from unittest import TestCase

FOLDER = Path(__file__).resolve().parent.parent / "bothandall"
FILES = sorted(FOLDER.rglob("*.py"))
LIBRARY = {"heapq", "math", "itertools", "collections", "__future__"}
BARRED = {
    "open", "input", "eval", "exec", "compile", "globals", "locals", "vars", "dir", "id", "hash", "print", "chr",
    "delattr", "help", "breakpoint", "round", "complex", "slice",
}
BUILTINS = {
    "len", "range", "enumerate", "zip", "min", "max", "sum", "abs", "sorted", "reversed", "int", "str", "bool", "list",
    "tuple", "dict", "set", "isinstance", "ord", "repr", "any", "all", "divmod", "map", "Exception", "ValueError",
    "TypeError", "KeyError", "IndexError", "LookupError", "ZeroDivisionError", "NotImplementedError",
}
METHODS = {
    "append", "clear", "copy", "count", "endswith", "extend", "find", "get", "index", "insert", "isalnum", "isalpha",
    "isdigit", "islower", "isspace", "isupper", "items", "join", "keys", "ljust", "lower", "lstrip", "partition", "pop",
    "remove", "replace", "reverse", "rfind", "rjust", "rpartition", "rsplit", "rstrip", "setdefault", "split",
    "splitlines", "startswith", "strip", "update", "upper", "values", "zfill", "bit_length", "add", "discard",
}
# What may stand around a generator expression, and what a name may keep of the calls that are iterated.
TAKERS = {"list", "tuple", "dict", "sorted", "sum", "min", "max", "any", "all"}
KEPT = {"range", "zip", "enumerate", "reversed", "map"}
STRANGE = (ast.AsyncFunctionDef, ast.AsyncFor, ast.AsyncWith, ast.Await, ast.TryStar, ast.Div, ast.MatMult)


def trees():
    return [(file, ast.parse(file.read_text(encoding="utf-8"))) for file in FILES]


def bound_names(tree):
    """All names that a file binds but for those of imports: parameters, targets, functions and classes."""
    found = []
    for node in ast.walk(tree):
        if isinstance(node, (ast.FunctionDef, ast.ClassDef)):
            found.append(node.name)
        elif isinstance(node, ast.arg):
            found.append(node.arg)
        elif isinstance(node, ast.Name) and isinstance(node.ctx, ast.Store):
            found.append(node.id)
    return found


def own_methods():
    """The names of all methods that the package defines."""
    classes = [node for _, tree in trees() for node in ast.walk(tree) if isinstance(node, ast.ClassDef)]
    return {node.name for one in classes for node in one.body if isinstance(node, ast.FunctionDef)}


def imported_names(tree):
    return [name.name for node in tree.body if isinstance(node, ast.ImportFrom) for name in node.names]


def is_taker(called):
    """Whether what is called may take a generator expression; of methods just the join of a literal."""
    if isinstance(called, ast.Attribute):
        return called.attr == "join" and isinstance(called.value, ast.Constant)
    return isinstance(called, ast.Name) and called.id in TAKERS


class LanguageTest(TestCase):
    def test_sizes_and_signs(self):
        self.assertTrue(FILES)
        for file in FILES:
            lines = file.read_text(encoding="utf-8").split("\n")
            self.assertLess(len(lines), 401, file)
            for line in lines:
                self.assertLess(len(line), 121, (file, line))
                self.assertTrue(all(" " <= sign <= "~" for sign in line), (file, line))

    def test_functions(self):
        for file in FILES:
            for node in ast.walk(ast.parse(file.read_text(encoding="utf-8"))):
                if isinstance(node, ast.FunctionDef):
                    self.assertLess(node.end_lineno - node.lineno, 40, (file, node.name))

    def test_imports(self):
        for file in FILES:
            for node in ast.walk(ast.parse(file.read_text(encoding="utf-8"))):
                if isinstance(node, ast.Import):
                    self.assertEqual([file.name] + [name.name for name in node.names], ["__main__.py", "sys"])
                if isinstance(node, ast.ImportFrom):
                    self.assertEqual(node.level, 0, file)
                    self.assertTrue(node.module in LIBRARY or node.module.startswith("bothandall."), file)

    def test_no_outside(self):
        for file in FILES:
            for node in ast.walk(ast.parse(file.read_text(encoding="utf-8"))):
                self.assertNotIsInstance(node, STRANGE, file)
                if isinstance(node, ast.Constant):
                    self.assertNotIsInstance(node.value, (float, complex), file)
                if isinstance(node, ast.Name) and file.name != "__main__.py":
                    self.assertNotIn(node.id, BARRED, file)

    def test_names(self):
        for file, tree in trees():
            names, imported = bound_names(tree), imported_names(tree)
            classes = [node.name for node in tree.body if isinstance(node, ast.ClassDef)]
            for name in names:
                # Python's own _ is there just while examples are shown.
                self.assertFalse(name != "_" and hasattr(builtins, name) and name != "__init__", (file, name))
                self.assertFalse(name.startswith("__") and name != "__init__", (file, name))
                self.assertNotIn(name, imported, file)
            self.assertEqual([names.count(name) for name in classes], [1] * len(classes), file)
            top = [node.name for node in tree.body if isinstance(node, (ast.ClassDef, ast.FunctionDef))] + imported
            self.assertEqual(sorted(top), sorted(set(top)), file)

    def test_calls(self):
        methods = METHODS | own_methods()
        for file, tree in trees():
            known = set(bound_names(tree)) | set(imported_names(tree)) | BUILTINS
            for node in ast.walk(tree):
                if isinstance(node, ast.Name):
                    self.assertIn(node.id, known, (file, node.lineno))
                if isinstance(node, ast.Call) and isinstance(node.func, ast.Attribute):
                    self.assertIn(node.func.attr, methods, (file, node.lineno))
                    if node.func.attr in METHODS:
                        self.assertEqual(node.keywords, [], (file, node.lineno))

    def test_imports_of_the_file_that_defines(self):
        defined = {
            "bothandall." + file.stem: set(bound_names(tree)) - {"thing"} for file, tree in trees()
        }
        for file, tree in trees():
            for node in tree.body:
                if isinstance(node, ast.ImportFrom) and node.module not in LIBRARY:
                    for name in node.names:
                        self.assertIn(name.name, defined[node.module], file)
                        self.assertIs(name.asname, None)
            used = {node.id for node in ast.walk(tree) if isinstance(node, ast.Name)}
            self.assertEqual(set(imported_names(tree)) - used, set(), file)

    def test_no_rounds_of_imports(self):
        asked = {}
        for file, tree in trees():
            modules = [node.module for node in tree.body if isinstance(node, ast.ImportFrom)]
            asked["bothandall." + file.stem] = {module for module in modules if module.startswith("bothandall.")}
        while asked:
            free = [name for name in asked if not asked[name] & set(asked)]
            self.assertTrue(free, asked)
            asked = {name: asked[name] for name in asked if name not in free}

    def test_generator_expressions(self):
        for file, tree in trees():
            inner = [node for node in ast.walk(tree) if isinstance(node, ast.GeneratorExp)]
            taken = []
            for node in ast.walk(tree):
                if isinstance(node, ast.Call) and is_taker(node.func):
                    taken += [arg for arg in node.args if isinstance(arg, ast.GeneratorExp)]
            self.assertEqual(len(inner), len(taken), file)

    def test_stars_in_calls(self):
        plain = (ast.Name, ast.Attribute, ast.Constant, ast.List, ast.Tuple)
        for file, tree in trees():
            for node in ast.walk(tree):
                if isinstance(node, ast.Call):
                    for arg in [arg for arg in node.args if isinstance(arg, ast.Starred)]:
                        self.assertIsInstance(arg.value, plain, (file, node.lineno))

    def test_kept_ranges(self):
        closed = (ast.GeneratorExp, ast.Lambda, ast.FunctionDef)
        for file, tree in trees():
            for function in [node for node in ast.walk(tree) if isinstance(node, ast.FunctionDef)]:
                kept = set()
                for node in ast.walk(function):
                    if isinstance(node, ast.Assign) and isinstance(node.value, ast.Call):
                        if isinstance(node.value.func, ast.Name) and node.value.func.id in KEPT:
                            kept |= {target.id for target in node.targets}
                for inside in [node for node in ast.walk(function) if isinstance(node, closed) and node is not function]:
                    read = {node.id for node in ast.walk(inside) if isinstance(node, ast.Name)}
                    self.assertEqual(kept & read, set(), (file, inside.lineno))
