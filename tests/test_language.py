"""The rules of the language that a machine sees at a glance: L1, L2, L10 and L14."""

import ast
import unittest
from pathlib import Path

PACKAGE = Path(__file__).resolve().parent.parent / "aheadbook"
LIBRARY = ("heapq", "math", "itertools", "collections", "__future__")


class LanguageTest(unittest.TestCase):
    def files(self):
        return sorted(path for path in PACKAGE.rglob("*.py"))

    def test_only_small_files_of_plain_signs(self):
        for path in self.files():
            with self.subTest(path=path.name):
                text = path.read_text(encoding="utf-8")
                self.assertTrue(all(sign == "\n" or " " <= sign <= "~" for sign in text))
                self.assertLess(text.count("\n"), 400)
                self.assertLessEqual(max(map(len, text.split("\n"))), 120)

    def test_small_functions(self):
        for path in self.files():
            for node in ast.walk(ast.parse(path.read_text(encoding="utf-8"))):
                if isinstance(node, ast.FunctionDef):
                    with self.subTest(path=path.name, function=node.name):
                        self.assertLessEqual(node.end_lineno - node.lineno + 1, 40)

    def test_imports_of_the_package_alone(self):
        for path in self.files():
            for node in ast.walk(ast.parse(path.read_text(encoding="utf-8"))):
                if isinstance(node, (ast.Import, ast.ImportFrom)):
                    with self.subTest(path=path.name, line=node.lineno):
                        self.assertIsInstance(node, ast.ImportFrom)
                        self.assertEqual(node.level, 0)
                        self.assertIn(node.module.split(".")[0], ("aheadbook",) + LIBRARY)


if __name__ == "__main__":
    unittest.main()
