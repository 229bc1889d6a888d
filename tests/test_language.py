"""The rules of the code that a test can see: files, characters, sizes, imports, builtins."""

import ast
import builtins
import pathlib
import re
import unittest

PACKAGE = pathlib.Path(__file__).resolve().parent.parent / "straightleast"
FILES = sorted(PACKAGE.rglob("*.py"))

ALLOWED = """
    len range enumerate zip min max sum abs sorted reversed int str bool bytes list tuple dict set frozenset
    isinstance ord repr any all divmod pow getattr hasattr setattr iter next super property staticmethod
    classmethod Exception ValueError TypeError KeyError IndexError LookupError ZeroDivisionError
    ArithmeticError OverflowError RuntimeError NotImplementedError AttributeError StopIteration
    NotImplemented True False None
""".split()
LIBRARY = {"heapq", "math", "itertools", "collections"}


def trees():
    return [(path, ast.parse(path.read_text(encoding="utf-8"))) for path in FILES]


class LanguageTest(unittest.TestCase):
    def test_the_folder_has_python_files_alone(self):
        self.assertGreater(len(FILES), 4)
        for path in PACKAGE.rglob("*"):
            if "__pycache__" not in path.parts and path.is_file():
                self.assertRegex(path.name, "^[a-z_][a-z0-9_]*[.]py$")

    def test_sizes_and_characters(self):
        for path in FILES:
            text = path.read_text(encoding="utf-8")
            lines = text.split("\n")
            self.assertLessEqual(len(lines), 399, path)
            for at, line in enumerate(lines, 1):
                self.assertLessEqual(len(line), 120, (path, at))
                self.assertRegex(line, "^[ -~]*$", (path, at))

    def test_functions_are_short(self):
        for path, tree in trees():
            for node in ast.walk(tree):
                if isinstance(node, ast.FunctionDef):
                    self.assertLessEqual(node.end_lineno - node.lineno + 1, 40, (path, node.name))

    def test_imports(self):
        for path, tree in trees():
            for node in ast.walk(tree):
                self.assertNotIsInstance(node, ast.Import, path)
                if isinstance(node, ast.ImportFrom):
                    self.assertEqual(node.level, 0)
                    own = node.module.startswith("straightleast.")
                    self.assertTrue(own or node.module in LIBRARY, (path, node.module))
                    self.assertTrue(all(name.asname is None and name.name != "*" for name in node.names))

    def test_builtins_that_are_used(self):
        barred = set(dir(builtins)) - set(ALLOWED)
        for path, tree in trees():
            for node in ast.walk(tree):
                if isinstance(node, ast.Name):
                    self.assertNotIn(node.id, barred, (path, node.lineno))
                if isinstance(node, ast.arg) or isinstance(node, ast.FunctionDef):
                    name = node.arg if isinstance(node, ast.arg) else node.name
                    own = re.match("__.*__$", name)
                    self.assertTrue(own or name not in dir(builtins), (path, node.lineno))

    def test_statements_and_numbers(self):
        barred = (ast.Global, ast.AsyncFunctionDef, ast.Await, ast.Div)
        for path, tree in trees():
            for node in ast.walk(tree):
                self.assertNotIsInstance(node, barred, path)
                if isinstance(node, ast.Constant):
                    self.assertNotIsInstance(node.value, (float, complex), (path, node.lineno))

    def test_generators_strings_and_sorting(self):
        for path, tree in trees():
            for node in ast.walk(tree):
                self.assertNotIsInstance(node, (ast.GeneratorExp, ast.Import, ast.AnnAssign), path)
                if isinstance(node, ast.Constant) and isinstance(node.value, str):
                    self.assertNotIn("%", node.value, (path, node.lineno))
                if isinstance(node, ast.Attribute):
                    self.assertNotIn(node.attr, ("sort", "format", "mro", "args"), (path, node.lineno))

    def test_no_set_is_stored_and_nothing_is_caught(self):
        # A class has a method called add, so that no set may be added to.
        for path, tree in trees():
            for node in ast.walk(tree):
                self.assertNotIsInstance(node, ast.Try, path)
                if isinstance(node, (ast.Assign, ast.AugAssign)):
                    stored = isinstance(node.value, (ast.Set, ast.SetComp))
                    call = isinstance(node.value, ast.Call) and isinstance(node.value.func, ast.Name)
                    stored = stored or call and node.value.func.id in ("set", "frozenset")
                    self.assertFalse(stored, (path, node.lineno))

    def test_ranges_and_their_kin_are_iterated_at_once(self):
        kept = ("range", "zip", "enumerate", "reversed", "map", "permutations", "combinations")
        for path, tree in trees():
            for node in ast.walk(tree):
                if isinstance(node, (ast.Assign, ast.Return)) and isinstance(node.value, ast.Call):
                    called = node.value.func
                    self.assertFalse(isinstance(called, ast.Name) and called.id in kept, (path, node.lineno))

    def test_attributes_are_no_methods(self):
        for path, tree in trees():
            methods = {
                row.name for node in tree.body if isinstance(node, ast.ClassDef)
                for row in node.body if isinstance(row, ast.FunctionDef)
            }
            for node in ast.walk(tree):
                if isinstance(node, ast.Attribute) and isinstance(node.ctx, ast.Store):
                    self.assertNotIn(node.attr, methods, (path, node.lineno))

    def test_no_name_stands_for_an_import_or_a_class_too(self):
        for path, tree in trees():
            taken = {name.name for node in ast.walk(tree) if isinstance(node, ast.ImportFrom) for name in node.names}
            taken |= {node.name for node in ast.walk(tree) if isinstance(node, ast.ClassDef)}
            for node in ast.walk(tree):
                if isinstance(node, ast.Name) and isinstance(node.ctx, ast.Store):
                    self.assertNotIn(node.id, taken, (path, node.lineno))
                if isinstance(node, ast.arg):
                    self.assertNotIn(node.arg, taken, (path, node.lineno))

    def test_every_import_names_the_file_that_defines_the_name(self):
        defined = {}
        for path, tree in trees():
            for node in tree.body:
                names = [node.name] if isinstance(node, (ast.FunctionDef, ast.ClassDef)) else []
                if isinstance(node, ast.Assign):
                    names = [target.id for target in node.targets]
                for name in names:
                    self.assertNotIn((path.stem, name), defined)
                    defined[path.stem, name] = True
        for path, tree in trees():
            used = {node.id for node in ast.walk(tree) if isinstance(node, ast.Name)}
            for node in ast.walk(tree):
                if isinstance(node, ast.ImportFrom):
                    for name in node.names:
                        self.assertIn(name.name, used, path)
                        if node.module not in LIBRARY:
                            self.assertIn((node.module.split(".")[1], name.name), defined, path)


if __name__ == "__main__":
    unittest.main()
