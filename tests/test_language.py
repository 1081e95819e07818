"""What can easily be checked of the language that the files of the package are written in."""

import ast
import builtins
import unittest
import warnings
from pathlib import Path

import onewayread

FOLDER = Path(onewayread.__file__).resolve().parent
BUILTINS = (
    "len range enumerate zip min max sum abs sorted reversed int str bool bytes list tuple dict set frozenset "
    "isinstance ord repr any all divmod map iter next object float print super property staticmethod classmethod "
    "Exception ValueError TypeError KeyError IndexError LookupError ZeroDivisionError ArithmeticError OverflowError "
    "RuntimeError NotImplementedError AttributeError StopIteration NotImplemented"
).split()
LIBRARY = ["heapq", "math", "itertools", "__future__"]
BARRED = (ast.Global, ast.AsyncFunctionDef, ast.AsyncFor, ast.AsyncWith, ast.Await, ast.Import, ast.Div, ast.TryStar)


def files():
    for path in sorted(FOLDER.rglob("*")):
        if path.is_file() and "__pycache__" not in path.parts:
            yield path


def bound_names(tree):
    for node in ast.walk(tree):
        if isinstance(node, ast.Name) and isinstance(node.ctx, ast.Store):
            yield node.id
        elif isinstance(node, ast.arg):
            yield node.arg
        elif isinstance(node, ast.ClassDef):
            yield node.name
        elif isinstance(node, ast.alias):
            yield node.asname or node.name


class Language(unittest.TestCase):
    def each(self):
        for path in files():
            source = path.read_text(encoding="utf-8")
            with self.subTest(file=path.name):
                yield path, source, ast.parse(source)

    def test_the_folder_holds_python_files_only(self):
        self.assertEqual([path.name for path in files() if path.suffix != ".py"], [])
        self.assertTrue((FOLDER / "__init__.py").is_file())

    def test_sizes_and_characters(self):
        for _, source, tree in self.each():
            lines = source.split("\n")
            self.assertLessEqual(len(lines) - 1, 399)
            self.assertLessEqual(max(len(line) for line in lines), 120)
            self.assertEqual([sign for sign in source if not (" " <= sign <= "~" or sign == "\n")], [])
            for node in ast.walk(tree):
                if isinstance(node, ast.FunctionDef):
                    self.assertLessEqual(node.end_lineno - node.lineno + 1, 40, node.name)

    def test_python_gives_no_warning(self):
        for path, source, _ in self.each():
            with warnings.catch_warnings():
                warnings.simplefilter("error")
                compile(source, str(path), "exec")

    def test_imports_are_of_the_package_and_name_what_is_defined_there(self):
        for _, _, tree in self.each():
            for node in tree.body:
                if isinstance(node, ast.ImportFrom) and node.module not in LIBRARY:
                    path = FOLDER.parent.joinpath(*node.module.split(".")).with_suffix(".py")
                    body = ast.parse(path.read_text(encoding="utf-8")).body
                    names = {item.name for item in body if isinstance(item, (ast.FunctionDef, ast.ClassDef))}
                    names |= {item.targets[0].id for item in body if isinstance(item, ast.Assign)}
                    self.assertEqual((node.level, {alias.name for alias in node.names} - names), (0, set()))

    def test_statements_and_values(self):
        for _, _, tree in self.each():
            for node in ast.walk(tree):
                self.assertNotIsInstance(node, BARRED)
                if isinstance(node, ast.Constant):
                    self.assertNotIsInstance(node.value, (float, complex))
                    self.assertFalse(isinstance(node.value, str) and "%" in node.value)
                if isinstance(node, (ast.Import, ast.ImportFrom)):
                    self.assertIn(node, tree.body)

    def test_builtins(self):
        for _, _, tree in self.each():
            bound = set(bound_names(tree))
            self.assertEqual(sorted(name for name in bound if hasattr(builtins, name)), [])
            used = {node.id for node in ast.walk(tree) if isinstance(node, ast.Name)} - bound
            wrong = [name for name in used if hasattr(builtins, name) and name not in BUILTINS]
            self.assertEqual(sorted(wrong), [])

    def test_lists_in_place_of_generator_expressions(self):
        for _, _, tree in self.each():
            for node in ast.walk(tree):
                if isinstance(node, ast.Call) and isinstance(node.func, ast.Name):
                    if node.func.id in ["any", "all", "min", "max", "sum", "sorted"]:
                        self.assertFalse(any(isinstance(value, ast.GeneratorExp) for value in node.args))


if __name__ == "__main__":
    unittest.main()
