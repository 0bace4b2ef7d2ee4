"""The rules of the language that a machine sees at a glance: of L1, L2, L7, L10, L14, L15 and L16."""

import ast
import builtins
import unittest
from pathlib import Path

PACKAGE = Path(__file__).resolve().parent.parent / "aheadbook"
LIBRARY = ("heapq", "math", "itertools", "collections", "__future__")


class LanguageTest(unittest.TestCase):
    def files(self):
        return sorted(path for path in PACKAGE.rglob("*.py"))

    def test_only_small_files_of_plain_signs(self):
        for path in self.files():
            with self.subTest(path=path.name):
                text = path.read_text(encoding="utf-8")
                self.assertTrue(all(sign == "\n" or " " <= sign <= "~" for sign in text))
                self.assertLess(text.count("\n"), 400)
                self.assertLessEqual(max(map(len, text.split("\n"))), 120)

    def test_small_functions(self):
        for path in self.files():
            for node in ast.walk(ast.parse(path.read_text(encoding="utf-8"))):
                if isinstance(node, ast.FunctionDef):
                    with self.subTest(path=path.name, function=node.name):
                        self.assertLessEqual(node.end_lineno - node.lineno + 1, 40)

    def test_imports_of_the_package_alone(self):
        for path in self.files():
            for node in ast.walk(ast.parse(path.read_text(encoding="utf-8"))):
                if isinstance(node, (ast.Import, ast.ImportFrom)):
                    with self.subTest(path=path.name, line=node.lineno):
                        self.assertIsInstance(node, ast.ImportFrom)
                        self.assertEqual(node.level, 0)
                        self.assertIn(node.module.split(".")[0], ("aheadbook",) + LIBRARY)

    def test_no_two_files_import_from_each_other(self):
        imported = {}
        for path in self.files():
            nodes = ast.parse(path.read_text(encoding="utf-8")).body
            modules = [node.module for node in nodes if isinstance(node, ast.ImportFrom)]
            imported[f"aheadbook.{path.stem}"] = {name for name in modules if name.startswith("aheadbook.")}
        # File by file is taken off that imports from none that is left: where none can be, some go round.
        while imported:
            free = [name for name in imported if not imported[name] & set(imported)]
            self.assertNotEqual(free, [], sorted(imported))
            for name in free:
                del imported[name]

    def test_no_name_of_a_builtin_or_an_import_is_given_another_meaning(self):
        for path in self.files():
            tree = ast.parse(path.read_text(encoding="utf-8"))
            taken = set(dir(builtins))
            for node in tree.body:
                if isinstance(node, ast.ImportFrom):
                    taken |= {each.name for each in node.names}
            for node in ast.walk(tree):
                names = [node.arg] if isinstance(node, ast.arg) else []
                names += [node.id] if isinstance(node, ast.Name) and not isinstance(node.ctx, ast.Load) else []
                for name in names:
                    self.assertNotIn(name, taken, path.name)

    def test_no_generator_expressions_floats_or_annotations(self):
        for path in self.files():
            for node in ast.walk(ast.parse(path.read_text(encoding="utf-8"))):
                with self.subTest(path=path.name, line=getattr(node, "lineno", 0)):
                    self.assertNotIsInstance(node, (ast.GeneratorExp, ast.AnnAssign, ast.Div))
                    self.assertIsNone(getattr(node, "annotation", None))


if __name__ == "__main__":
    unittest.main()
