"""Some rules of the language of the package that can be counted."""

import ast
import builtins
import unittest
from pathlib import Path

FOLDER = Path(__file__).resolve().parent.parent / "sametolls"
FILES = sorted(FOLDER.glob("*.py"))
# The interface calls an argument of lag as the function that makes it is called.
BOTH = {"batches.py": {"pacing"}}
BARRED = (ast.GeneratorExp, ast.Set, ast.SetComp, ast.Global, ast.AsyncFunctionDef, ast.Div, ast.Yield)


def bound_at_top(tree):
    """The names that a file binds, in their order."""
    found = []
    for node in tree.body:
        if isinstance(node, ast.ImportFrom):
            found += [alias.name for alias in node.names]
        elif isinstance(node, (ast.FunctionDef, ast.ClassDef)):
            found.append(node.name)
        elif isinstance(node, ast.Assign):
            found += [target.id for target in node.targets]
    return found


def bound_within(tree):
    """The names of parameters and of all that functions assign."""
    found = []
    for node in ast.walk(tree):
        if isinstance(node, (ast.FunctionDef, ast.Lambda)):
            found += [arg.arg for arg in node.args.args]
            found += [name.id for name in ast.walk(node) if isinstance(name, ast.Name)
                      and isinstance(name.ctx, ast.Store)]
    return found


class Language(unittest.TestCase):
    def test_names_mean_one_thing_each(self):
        for file in FILES:
            tree = ast.parse(file.read_text(encoding="utf-8"))
            top = bound_at_top(tree)
            self.assertEqual(len(top), len(set(top)), file.name)
            self.assertEqual(set(top) & set(bound_within(tree)), BOTH.get(file.name, set()), file.name)
            self.assertEqual([name for name in top + bound_within(tree) if hasattr(builtins, name)], [], file.name)

    def test_all_that_is_imported_is_used(self):
        for file in FILES:
            tree = ast.parse(file.read_text(encoding="utf-8"))
            used = {node.id for node in ast.walk(tree) if isinstance(node, ast.Name)}
            for node in tree.body:
                if isinstance(node, ast.ImportFrom):
                    self.assertLessEqual({alias.name for alias in node.names}, used, file.name)

    def test_sizes_and_signs(self):
        self.assertGreater(len(FILES), 8)
        for file in FILES:
            text = file.read_text(encoding="utf-8")
            self.assertLess(len(text.splitlines()), 400, file.name)
            self.assertTrue(all(" " <= sign <= "~" or sign == "\n" for sign in text), file.name)
            self.assertLessEqual(max([len(line) for line in text.splitlines()]), 120, file.name)

    def test_functions_are_short_and_plain(self):
        for file in FILES:
            for node in ast.walk(ast.parse(file.read_text(encoding="utf-8"))):
                self.assertNotIsInstance(node, BARRED, file.name)
                if isinstance(node, ast.FunctionDef):
                    self.assertLessEqual(node.end_lineno - node.lineno, 39, node.name)
                    self.assertEqual(node.decorator_list, [], node.name)

    def test_own_errors_alone_are_caught(self):
        for file in FILES:
            for node in ast.walk(ast.parse(file.read_text(encoding="utf-8"))):
                if isinstance(node, ast.ExceptHandler):
                    self.assertIn(node.type.id, ("TollError", "TooLong"), file.name)

    def test_imports_are_of_the_package_alone(self):
        for file in FILES:
            for node in ast.walk(ast.parse(file.read_text(encoding="utf-8"))):
                self.assertNotIsInstance(node, ast.Import, file.name)
                if isinstance(node, ast.ImportFrom):
                    self.assertTrue(node.module.startswith("sametolls."), file.name)
                    self.assertEqual(node.level, 0, file.name)

    def test_no_other_files(self):
        others = [path.name for path in FOLDER.iterdir() if path.suffix != ".py" and path.name != "__pycache__"]
        self.assertEqual(others, [])


if __name__ == "__main__":
    unittest.main()
