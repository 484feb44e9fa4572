"""Texts of sheets and plans."""

import copy
import unittest

from sametolls.plans import least_plan
from sametolls.reading import read_plan, read_sheet
from sametolls.sheets import Sheet
from sametolls.texts import plan_text, sheet_text
from sametolls.trees import Tree
from tests.support import (EXAMPLE, ROW_OF_THREE, all_odd, error_of, full_plan, great_sheet, some_sheets, star_tree,
                           undoable_sheets)

TEXT = "clock 5\ntie 0 1\ntie 1 2\npost 1\nwant 1 0 0\npost 1\nwant 1 1 0\npost 1\nwant 0 1 1\n"
PLAN = ({(0, 1): ((1,),), (1, 0): (), (1, 2): ((1, 0),), (2, 1): ()}, (((1,),), ((1, 1),), ((1, 1),)))
PLAN_TEXT = ("over 0 1\nsay 1\nover 1 0\nover 1 2\nsay 1 0\nover 2 1\n"
             "at 0\nanswer 1\nat 1\nanswer 1 1\nat 2\nanswer 1 1\n")


def plain_sheet_text(sheet):
    """The text of a sheet, line by line."""
    text = f"clock {sheet.p}\n"
    for one, other in sheet.tree.ties:
        text += f"tie {one} {other}\n"
    for post in range(sheet.tree.posts):
        text += f"post {sheet.holds[post]}\n"
        for row in sheet.wants[post]:
            text += "want" + "".join(f" {value}" for value in row) + "\n"
    return text


def plain_plan_text(plan):
    """The text of a plan, line by line."""
    text = ""
    for here, there in sorted(plan[0]):
        text += f"over {here} {there}\n"
        for row in plan[0][here, there]:
            text += "say" + "".join(f" {value}" for value in row) + "\n"
    for post, rows in enumerate(plan[1]):
        text += f"at {post}\n"
        for row in rows:
            text += "answer" + "".join(f" {value}" for value in row) + "\n"
    return text


class SheetTexts(unittest.TestCase):
    def test_known_ones(self):
        self.assertEqual(sheet_text(Sheet(2, Tree(((0, 1),)), (1, 0), ((), ((1,),)))),
                         "clock 2\ntie 0 1\npost 1\npost 0\nwant 1\n")
        self.assertEqual(sheet_text(EXAMPLE), TEXT)
        self.assertEqual(sheet_text(Sheet(999983, Tree(()), (0,), ((),))), "clock 999983\npost 0\n")
        self.assertEqual(sheet_text(Sheet(3, Tree(()), (0,), (((), ()),))), "clock 3\npost 0\nwant\nwant\n")
        self.assertEqual(sheet_text(Sheet(999983, Tree(()), (2,), (((999982, 10),),))),
                         "clock 999983\npost 2\nwant 999982 10\n")

    def test_line_by_line(self):
        for sheet in some_sheets(531, 60, 8, 3, 3) + [great_sheet(), great_sheet(2, star_tree(24, 12))]:
            self.assertEqual(sheet_text(sheet), plain_sheet_text(sheet))

    def test_read_back(self):
        for sheet in some_sheets(532, 60, 8, 3, 3) + undoable_sheets(533, 10) + [great_sheet()]:
            found = read_sheet(sheet_text(sheet))
            self.assertIsInstance(found, Sheet)
            self.assertEqual(found, sheet)
            self.assertEqual((found.p, found.holds, found.wants, found.numbers, found.tree.ties),
                             (sheet.p, sheet.holds, sheet.wants, sheet.numbers, sheet.tree.ties))


class PlanTexts(unittest.TestCase):
    def test_known_ones(self):
        self.assertEqual(plan_text(EXAMPLE, PLAN), PLAN_TEXT)
        alone = Sheet(3, Tree(()), (0,), (((), ()),))
        self.assertEqual(plan_text(alone, ({}, (((), ()),))), "at 0\nanswer\nanswer\n")
        self.assertEqual(plan_text(Sheet(3, Tree(()), (2,), ((),)), ({}, ((),))), "at 0\n")
        empty = Sheet(2, Tree(((0, 1),)), (0, 0), ((), ()))
        says = {(1, 0): ((), ()), (0, 1): ()}
        self.assertEqual(plan_text(empty, (says, ((), ()))), "over 0 1\nover 1 0\nsay\nsay\nat 0\nat 1\n")

    def test_ways_ascending_whatever_the_order_of_keys(self):
        turned = {way: PLAN[0][way] for way in sorted(PLAN[0], reverse=True)}
        self.assertEqual(plan_text(EXAMPLE, (turned, PLAN[1])), PLAN_TEXT)

    def test_line_by_line_and_read_back(self):
        for sheet in some_sheets(534, 60, 8, 3, 3) + [great_sheet(), great_sheet(2, star_tree(24, 12))]:
            for plan in (least_plan(sheet), full_plan(sheet)):
                text = plan_text(sheet, plan)
                self.assertEqual(text, plain_plan_text(plan))
                self.assertEqual(read_plan(sheet, text), plan)

    def test_a_wrong_plan_has_a_text_too(self):
        wrong = {**PLAN[0], (1, 2): ((4, 4),)}, PLAN[1]
        text = plan_text(EXAMPLE, wrong)
        self.assertIn("say 4 4\n", text)
        self.assertEqual(read_plan(EXAMPLE, text), wrong)

    def test_no_plan(self):
        short = {way: PLAN[0][way] for way in list(PLAN[0])[1:]}
        for thing in all_odd() + [PLAN[0], list(PLAN), PLAN[::-1], (short, PLAN[1]), (PLAN[0], PLAN[1][:2]), PLAN_TEXT,
                                  ({**PLAN[0], (0, 1): ((5,),)}, PLAN[1]), ({**PLAN[0], (0, 2): ()}, PLAN[1]),
                                  ({**PLAN[0], (0, 1): ((True,),)}, PLAN[1])]:
            self.assertEqual(error_of(plan_text, EXAMPLE, thing), ("NoPlan", {}))
        self.assertEqual(error_of(plan_text, Sheet(2, ROW_OF_THREE, (0, 0, 0), ((),) * 3), PLAN), ("NoPlan", {}))

    def test_what_is_passed_stays(self):
        plan = copy.deepcopy(PLAN)
        plan_text(EXAMPLE, plan)
        self.assertEqual(plan, PLAN)


if __name__ == "__main__":
    unittest.main()
