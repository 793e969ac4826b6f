"""Some of the rules of the language that can be seen in the text of the package."""

import ast
from pathlib import Path
from unittest import TestCase

FOLDER = Path(__file__).resolve().parent.parent / "bothandall"
FILES = sorted(FOLDER.rglob("*.py"))
LIBRARY = {"heapq", "math", "itertools", "collections", "__future__"}
BARRED = {
    "open", "input", "eval", "exec", "compile", "globals", "locals", "vars", "dir", "id", "hash", "print", "chr",
    "delattr", "help", "breakpoint", "round", "complex", "slice",
}
STRANGE = (ast.AsyncFunctionDef, ast.AsyncFor, ast.AsyncWith, ast.Await, ast.TryStar, ast.Div, ast.MatMult)


class LanguageTest(TestCase):
    def test_sizes_and_signs(self):
        self.assertTrue(FILES)
        for file in FILES:
            lines = file.read_text(encoding="utf-8").split("\n")
            self.assertLess(len(lines), 401, file)
            for line in lines:
                self.assertLess(len(line), 121, (file, line))
                self.assertTrue(all(" " <= sign <= "~" for sign in line), (file, line))

    def test_functions(self):
        for file in FILES:
            for node in ast.walk(ast.parse(file.read_text(encoding="utf-8"))):
                if isinstance(node, ast.FunctionDef):
                    self.assertLess(node.end_lineno - node.lineno, 40, (file, node.name))

    def test_imports(self):
        for file in FILES:
            for node in ast.walk(ast.parse(file.read_text(encoding="utf-8"))):
                if isinstance(node, ast.Import):
                    self.assertEqual([file.name] + [name.name for name in node.names], ["__main__.py", "sys"])
                if isinstance(node, ast.ImportFrom):
                    self.assertEqual(node.level, 0, file)
                    self.assertTrue(node.module in LIBRARY or node.module.startswith("bothandall."), file)

    def test_no_outside(self):
        for file in FILES:
            for node in ast.walk(ast.parse(file.read_text(encoding="utf-8"))):
                self.assertNotIsInstance(node, STRANGE, file)
                if isinstance(node, ast.Constant):
                    self.assertNotIsInstance(node.value, (float, complex), file)
                if isinstance(node, ast.Name) and file.name != "__main__.py":
                    self.assertNotIn(node.id, BARRED, file)
