"""The form of the package's files, as far as a program can easily tell it.

It tells the sizes, signs, imports, statements, builtins and methods that the
subset of the language allows; the finer rules are for the reader.
"""

import ast
import builtins
import os
import re
import unittest

PACKAGE = os.path.join(os.path.dirname(__file__), os.pardir, "ibidem")

BUILTINS = set("""
    len range enumerate zip min max sum abs sorted reversed int str bool bytes list tuple dict set
    frozenset isinstance ord repr any all divmod pow getattr hasattr setattr iter next map super
    property staticmethod classmethod Exception ValueError TypeError KeyError IndexError LookupError
    ZeroDivisionError ArithmeticError OverflowError RuntimeError NotImplementedError AttributeError
    StopIteration NotImplemented
""".split())

METHODS = set("""
    append clear copy count endswith extend find get index insert isalnum isalpha isdigit islower
    isspace isupper items join keys ljust lower lstrip partition pop remove replace reverse rfind
    rjust rpartition rsplit rstrip setdefault split splitlines startswith strip update upper values
    zfill bit_length title capitalize swapcase casefold center expandtabs removeprefix removesuffix
    rindex isascii isdecimal isnumeric istitle isidentifier isprintable sort add discard __init__
""".split())

AT_TOP = (ast.ImportFrom, ast.FunctionDef, ast.ClassDef, ast.Assign)

NEVER = (
    ast.Global, ast.Div, ast.AsyncFunctionDef, ast.AsyncFor, ast.AsyncWith, ast.Await, ast.Import, ast.TryStar,
)


def sources():
    """The text of each file of the package, by its name."""
    found = {}
    for name in sorted(os.listdir(PACKAGE)):
        if name != "__pycache__":
            with open(os.path.join(PACKAGE, name), encoding="utf-8", newline="") as file:
                found[name] = file.read()
    return found


def trees():
    return {name: ast.parse(text) for name, text in sources().items()}


def nodes(kind):
    """All nodes of this kind with the names of their files."""
    return [(name, node) for name, tree in trees().items()
            for node in ast.walk(tree) if isinstance(node, kind)]


def defined(tree):
    """The names that a file defines itself at its top."""
    found = set()
    for node in tree.body:
        if isinstance(node, (ast.FunctionDef, ast.ClassDef)):
            found.add(node.name)
        elif isinstance(node, ast.Assign):
            found.update(target.id for target in node.targets)
    return found


class TestForm(unittest.TestCase):

    def test_files(self):
        self.assertIn("__init__.py", sources())
        for name, text in sources().items():
            with self.subTest(name):
                self.assertRegex(name, r"\A[a-z0-9_]+\.py\Z")
                self.assertRegex(text, r"\A[ -~\n]+\n\Z")
                lines = text.split("\n")
                self.assertLessEqual(len(lines), 399)
                self.assertLessEqual(max(map(len, lines)), 120)

    def test_functions_are_short(self):
        for name, node in nodes(ast.FunctionDef):
            self.assertLessEqual(node.end_lineno - node.lineno + 1, 40, (name, node.name))

    def test_module_level(self):
        for name, tree in trees().items():
            self.assertIsNotNone(ast.get_docstring(tree), name)
            for node in tree.body[1:]:
                self.assertIsInstance(node, AT_TOP, (name, node.lineno))

    def test_imports_name_the_defining_file(self):
        homes = {"ibidem." + name[:-3]: defined(tree) for name, tree in trees().items()}
        for name, node in nodes(ast.ImportFrom):
            if node.module in ("heapq", "math", "itertools", "collections"):
                continue
            with self.subTest(name, module=node.module):
                self.assertEqual(node.level, 0)
                for alias in node.names:
                    self.assertIn(alias.name, homes[node.module])

    def test_imports_make_no_circle(self):
        needs = {"ibidem." + name[:-3]: set() for name in sources()}
        for name, node in nodes(ast.ImportFrom):
            needs["ibidem." + name[:-3]].add(node.module)
        while needs:
            free = [name for name, modules in needs.items() if not modules & set(needs)]
            self.assertTrue(free, needs)
            for name in free:
                del needs[name]

    def test_statements_that_never_stand(self):
        for name, node in nodes(NEVER):
            self.fail((name, node))

    def test_literals(self):
        for name, node in nodes(ast.Constant):
            with self.subTest(name, line=node.lineno):
                self.assertNotIsInstance(node.value, (float, complex))
                if isinstance(node.value, str):
                    self.assertNotIn("%", node.value)

    def test_builtins(self):
        bound = set()
        for _, tree in trees().items():
            bound |= defined(tree)
        for name, node in nodes(ast.Name):
            with self.subTest(name, line=node.lineno, word=node.id):
                if isinstance(node.ctx, ast.Load):
                    self.assertTrue(node.id in BUILTINS or not hasattr(builtins, node.id))
                else:
                    self.assertFalse(hasattr(builtins, node.id))
        for name, node in nodes(ast.arg):
            self.assertFalse(hasattr(builtins, node.arg), (name, node.arg))
        for word in bound:
            self.assertFalse(hasattr(builtins, word), word)

    def test_methods(self):
        own = {node.name for _, top in nodes(ast.ClassDef)
               for node in top.body if isinstance(node, ast.FunctionDef)}
        for name, node in nodes(ast.Call):
            if isinstance(node.func, ast.Attribute):
                self.assertIn(node.func.attr, METHODS | own, (name, node.lineno))

    def test_names(self):
        for name, node in nodes((ast.FunctionDef, ast.ClassDef)):
            self.assertRegex(node.name, r"\A(_?[A-Za-z][A-Za-z0-9_]*|__[a-z]+__)\Z", name)
        for name, node in nodes(ast.Name):
            self.assertTrue(re.fullmatch(r"_|_?[A-Za-z][A-Za-z0-9_]*", node.id), (name, node.id))


if __name__ == "__main__":
    unittest.main()
