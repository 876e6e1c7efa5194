"""Some rules about the form of the code that are easily broken unawares."""

import ast
import builtins
import pathlib
import unittest

PACKAGE = pathlib.Path(__file__).resolve().parent.parent / "shortfigures"
LIBRARY = ("heapq", "math", "itertools", "__future__")
BUILTINS = set(
    "len range enumerate zip min max sum abs sorted reversed int str bool bytes list tuple dict set frozenset "
    "isinstance ord repr any all divmod iter next map property staticmethod classmethod super Exception ValueError "
    "TypeError KeyError IndexError LookupError ZeroDivisionError ArithmeticError OverflowError RuntimeError "
    "NotImplementedError AttributeError StopIteration NotImplemented object float".split())
BARRED = ("type", "typing", "enum", "dataclass", "overload", "contextmanager", "namedtuple", "register", "elements",
          "law")


def modules():
    """Return pairs of the name and the text of each file of the package."""
    return [(path.name, path.read_text(encoding="utf-8")) for path in sorted(PACKAGE.glob("**/*.py"))]


def words(tree):
    """Return all names of a module, those of attributes, parameters and definitions included."""
    found = []
    for node in ast.walk(tree):
        for field in ("id", "attr", "arg", "name"):
            if isinstance(getattr(node, field, None), str):
                found.append(getattr(node, field))
    return found


class FormTest(unittest.TestCase):

    def test_the_folder_holds_modules_only(self):
        for path in PACKAGE.rglob("*"):
            if "__pycache__" not in path.parts:
                self.assertTrue(path.is_dir() or path.suffix == ".py", path)

    def test_characters_and_sizes(self):
        for name, text in modules():
            with self.subTest(name=name):
                self.assertTrue(all(sign == "\n" or " " <= sign <= "~" for sign in text))
                self.assertLessEqual(len(text.splitlines()), 399)
                self.assertLessEqual(max(len(line) for line in text.splitlines()), 120)
                for node in ast.walk(ast.parse(text)):
                    if isinstance(node, ast.FunctionDef):
                        self.assertLessEqual(node.end_lineno - node.lineno + 1, 40, node.name)

    def test_imports(self):
        for name, text in modules():
            for node in ast.walk(ast.parse(text)):
                self.assertNotIsInstance(node, ast.Import, name)
                if isinstance(node, ast.ImportFrom):
                    self.assertEqual(0, node.level, name)
                    self.assertTrue(node.module.startswith("shortfigures.") or node.module in LIBRARY, name)

    def test_names(self):
        for name, text in modules():
            tree = ast.parse(text)
            for word in words(tree):
                self.assertNotIn(word, BARRED, name)
            for node in ast.walk(tree):
                # A doctest that ran before may have left a name `_` among the builtins.
                if isinstance(node, ast.Name) and node.id != "_" and node.id in vars(builtins):
                    self.assertIsInstance(node.ctx, ast.Load, name)
                    self.assertIn(node.id, BUILTINS, name)

    def test_no_floats(self):
        for name, text in modules():
            for node in ast.walk(ast.parse(text)):
                self.assertNotIsInstance(node, ast.Div, name)
                if isinstance(node, ast.Constant):
                    self.assertNotIsInstance(node.value, (float, complex), name)


if __name__ == "__main__":
    unittest.main()
