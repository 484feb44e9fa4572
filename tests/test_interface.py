"""The names of the interface: each in its own file, with its arguments."""

import importlib
import inspect
import unittest

FILES = {
    "clocks": ["is_clock(thing)", "ladder(p, wide, rows)", "rank(p, wide, rows)", "determinant(p, rows)",
               "mixture(p, wide, rows, row)", "parting(p, wide, rows, row)", "square(p, wide, rows)"],
    "trees": ["Tree(ties)", "tied(tree, post)", "beyond(tree, way)", "ways(tree)"],
    "sheets": ["Sheet(p, tree, holds, wants)", "held(sheet, post)", "block(sheet, way)"],
    "tolls": ["toll(sheet, way)", "tolls(sheet)", "toll_square(sheet, way)", "is_toll_square(sheet, way, thing)"],
    "plans": ["is_shape(sheet, thing)", "is_right(sheet, thing)", "said(sheet, plan, way)",
              "first_wrong(sheet, plan)", "counts(sheet, plan)", "over(sheet, plan)",
              "translated(sheet, plan, other)", "least_plan(sheet)"],
    "runs": ["run(sheet, plan, given)", "wanted(sheet, given)"],
    "listeners": ["learnt(sheet, plan, ways)", "surely_learnt(sheet, ways)", "can_hide(sheet, ways, row)",
                  "alike(sheet, plan, ways, one, other)", "twin(sheet, plan, ways, given, row)"],
}


class Interface(unittest.TestCase):
    def test_names_arguments_and_files(self):
        for file, lines in FILES.items():
            module = importlib.import_module(f"sametolls.{file}")
            for line in lines:
                name = line.partition("(")[0]
                thing = getattr(module, name)
                self.assertEqual(f"{name}{inspect.signature(thing)}", line)
                self.assertEqual(thing.__module__, f"sametolls.{file}")
                self.assertEqual(inspect.isclass(thing), name[0].isupper())

    def test_equality_is_defined_in_each_class(self):
        for file, name in (("trees", "Tree"), ("sheets", "Sheet")):
            kind = getattr(importlib.import_module(f"sametolls.{file}"), name)
            self.assertIn("__eq__", vars(kind))
            self.assertIn("__init__", vars(kind))


if __name__ == "__main__":
    unittest.main()
