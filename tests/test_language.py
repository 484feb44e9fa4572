"""Some rules of the language of the package that can be counted."""

import ast
import unittest
from pathlib import Path

FOLDER = Path(__file__).resolve().parent.parent / "sametolls"
FILES = sorted(FOLDER.glob("*.py"))
BARRED = (ast.GeneratorExp, ast.Set, ast.SetComp, ast.Global, ast.AsyncFunctionDef, ast.Try, ast.Div, ast.Yield)


class Language(unittest.TestCase):
    def test_sizes_and_signs(self):
        self.assertGreater(len(FILES), 8)
        for file in FILES:
            text = file.read_text(encoding="utf-8")
            self.assertLess(len(text.splitlines()), 400, file.name)
            self.assertTrue(all(" " <= sign <= "~" or sign == "\n" for sign in text), file.name)
            self.assertLessEqual(max([len(line) for line in text.splitlines()]), 120, file.name)

    def test_functions_are_short_and_plain(self):
        for file in FILES:
            for node in ast.walk(ast.parse(file.read_text(encoding="utf-8"))):
                self.assertNotIsInstance(node, BARRED, file.name)
                if isinstance(node, ast.FunctionDef):
                    self.assertLessEqual(node.end_lineno - node.lineno, 39, node.name)
                    self.assertEqual(node.decorator_list, [], node.name)

    def test_imports_are_of_the_package_alone(self):
        for file in FILES:
            for node in ast.walk(ast.parse(file.read_text(encoding="utf-8"))):
                self.assertNotIsInstance(node, ast.Import, file.name)
                if isinstance(node, ast.ImportFrom):
                    self.assertTrue(node.module.startswith("sametolls."), file.name)
                    self.assertEqual(node.level, 0, file.name)

    def test_no_other_files(self):
        others = [path.name for path in FOLDER.iterdir() if path.suffix != ".py" and path.name != "__pycache__"]
        self.assertEqual(others, [])


if __name__ == "__main__":
    unittest.main()
