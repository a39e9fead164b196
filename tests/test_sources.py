"""The package uses no clock, no chance and no files: it draws on itself and on plain built-in names alone."""

import ast
import builtins
import pathlib
import unittest

PACKAGE = pathlib.Path(__file__).resolve().parent.parent / "cornerfill"
MODULES = ("__init__.py board.py corners.py errors.py notes.py rectangles.py small.py squares.py").split()
ALLOWED = set("""
    len range enumerate zip min max sum abs sorted reversed int str bool list tuple dict set frozenset isinstance ord
    repr any all divmod Exception ValueError TypeError KeyError IndexError LookupError ZeroDivisionError
    ArithmeticError OverflowError RuntimeError NotImplementedError StopIteration
""".split())


def sources():
    return sorted(PACKAGE.rglob("*.py"))


def nodes(path):
    return list(ast.walk(ast.parse(path.read_text(encoding="utf-8"))))


class Sources(unittest.TestCase):
    def test_the_modules_are_there(self):
        names = [path.name for path in sources()]
        for name in MODULES:
            self.assertIn(name, names)

    def test_only_the_package_itself_is_imported(self):
        for path in sources():
            for node in nodes(path):
                self.assertNotIsInstance(node, ast.Import, path.name)
                if isinstance(node, ast.ImportFrom):
                    self.assertEqual(node.level, 0, path.name)
                    self.assertEqual(node.module.split(".")[0], "cornerfill", path.name)

    def test_only_plain_built_in_names_are_used(self):
        for path in sources():
            used = set(node.id for node in nodes(path) if isinstance(node, ast.Name))
            self.assertEqual(sorted((used & set(dir(builtins))) - ALLOWED), [], path.name)

    def test_size_and_signs(self):
        for path in sources():
            text = path.read_text(encoding="utf-8")
            self.assertTrue(all(sign == "\n" or " " <= sign <= "~" for sign in text), path.name)
            self.assertLessEqual(len(text.splitlines()), 400, path.name)
            self.assertLessEqual(max(len(line) for line in text.splitlines()), 120, path.name)
            for node in nodes(path):
                if isinstance(node, ast.FunctionDef):
                    self.assertLessEqual(node.end_lineno - node.lineno + 1, 40, f"{path.name} {node.name}")


if __name__ == "__main__":
    unittest.main()
