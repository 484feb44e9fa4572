"""What is heard and answered for what is given, and what is wanted then."""

import copy
import unittest

from sametolls.plans import is_shape, least_plan
from sametolls.runs import run, wanted
from sametolls.sheets import Sheet
from sametolls.trees import Tree, ways
from tests.support import (EXAMPLE, ROW_OF_THREE, Dice, all_heard, all_odd, all_rows, all_wanted, error_of,
                           full_plan, great_sheet, some_sheets, star_tree, units)

SHEETS = some_sheets(61, 60)
RIGHT = least_plan(EXAMPLE)
WRONG = {**RIGHT[0], (2, 1): ((3,),)}, (((4,),), ((0, 2, 1),), ((1, 1),))
NO_GIVENS = all_odd() + [(), (1,), (1, 2), (1, 2, 3, 4), [1, 2, 3], (1, 2, 5), (5, 1, 2), (1, -1, 2), (1, True, 2),
                         (False, 1, 2), (1, None, 2), ("1", 1, 2), "123", b"\x01\x02\x03", {0: 1, 1: 2, 2: 3}, 5,
                         (1, (2,), 3), (1, 2, [3]), (1, 2, 10 ** 59)]


def givens(seed, sheet):
    """Noughts alone, one number alone, and others."""
    dice = Dice(seed)
    found = [(0,) * sheet.numbers] + units(sheet.numbers)
    return found + [tuple(dice.below(sheet.p) for _ in range(sheet.numbers)) for _ in range(3)]


def wrong_plan(dice, sheet):
    """A plan that says and answers whatever the dice tell."""
    many = {way: dice.below(3) for way in ways(sheet.tree)}

    def width(here, there):
        return sheet.holds[here] + sum(many[way] for way in many if way[1] == here and way[0] != there)

    says = {way: tuple(dice.row(sheet.p, width(*way)) for _ in range(many[way])) for way in many}
    answers = tuple(tuple(dice.row(sheet.p, width(post, None)) for _ in rows)
                    for post, rows in enumerate(sheet.wants))
    return says, answers


class Run(unittest.TestCase):
    def test_right_plans(self):
        for seed, sheet in enumerate(SHEETS):
            for plan in (least_plan(sheet), full_plan(sheet)):
                for given in givens(seed, sheet):
                    found = run(sheet, plan, given)
                    self.assertIsInstance(found, tuple)
                    self.assertEqual(found, all_heard(sheet, plan, given))
                    self.assertEqual(found[1], wanted(sheet, given))

    def test_wrong_plans(self):
        dice = Dice(62)
        for seed, sheet in enumerate(SHEETS):
            plan = wrong_plan(dice, sheet)
            self.assertIs(is_shape(sheet, plan), True)
            for given in givens(seed, sheet):
                heard, answers = run(sheet, plan, given)
                self.assertIsInstance(heard, dict)
                self.assertEqual((heard, answers), all_heard(sheet, plan, given))
            self.assertEqual(run(sheet, plan, (0,) * sheet.numbers),
                             ({way: (0,) * len(rows) for way, rows in plan[0].items()},
                              tuple((0,) * len(rows) for rows in sheet.wants)))

    def test_great_sheets(self):
        for sheet in (great_sheet(), great_sheet(7, star_tree(24, 23))):
            for given in givens(1, sheet)[-2:]:
                self.assertEqual(run(sheet, least_plan(sheet), given)[1], all_wanted(sheet, given))

    def test_known_ones(self):
        heard = {(0, 1): (1,), (1, 0): (), (1, 2): (2,), (2, 1): ()}
        self.assertEqual(run(EXAMPLE, RIGHT, (1, 2, 3)), (heard, ((1,), (3,), (0,))))
        heard = {(0, 1): (1,), (1, 0): (), (1, 2): (2,), (2, 1): (4,)}
        # Post 1 has its own 2, then 1 and 4 that it heard; post 2 its own 3, then 2.
        self.assertEqual(run(EXAMPLE, WRONG, (1, 2, 3)), (heard, ((4,), (1,), (0,))))

    def test_a_single_post_and_no_numbers(self):
        sheet = Sheet(5, Tree(()), (2,), (((1, 4), (0, 0)),))
        self.assertEqual(run(sheet, ({}, (((1, 3), (2, 0)),)), (2, 1)), ({}, ((0, 4),)))
        self.assertEqual(wanted(sheet, (2, 1)), ((1, 0),))
        sheet = Sheet(5, ROW_OF_THREE, (0, 0, 0), (((),), (), ()))
        plan = least_plan(sheet)
        self.assertEqual(run(sheet, plan, ()), ({way: () for way in ways(ROW_OF_THREE)}, ((0,), (), ())))
        self.assertEqual(wanted(sheet, ()), ((0,), (), ()))

    def test_dicts_are_new_and_what_is_passed_stays(self):
        plan = copy.deepcopy(RIGHT)
        given = (1, 2, 3)
        heard = run(EXAMPLE, plan, given)[0]
        heard.clear()
        plan[0].pop((0, 1))
        self.assertEqual(run(EXAMPLE, RIGHT, given)[0], {(0, 1): (1,), (1, 0): (), (1, 2): (2,), (2, 1): ()})
        self.assertEqual(RIGHT, least_plan(EXAMPLE))


class Wanted(unittest.TestCase):
    def test_sums_of_all_wants(self):
        for seed, sheet in enumerate(SHEETS):
            for given in givens(seed, sheet):
                found = wanted(sheet, given)
                self.assertIsInstance(found, tuple)
                self.assertEqual(found, all_wanted(sheet, given))

    def test_all_givens_of_the_example(self):
        for a, b, c in all_rows(5, 3):
            self.assertEqual(wanted(EXAMPLE, (a, b, c)), ((a,), ((a + b) % 5,), ((b + c) % 5,)))


class Errors(unittest.TestCase):
    def test_no_plan(self):
        for thing in all_odd() + [(), ({}, ()), list(RIGHT), RIGHT[0], RIGHT + ((),)]:
            for given in ((1, 2, 3), None, (1, 2)):
                self.assertEqual(error_of(run, EXAMPLE, thing, given), ("NoPlan", {}))

    def test_no_given(self):
        for given in NO_GIVENS:
            for plan in (RIGHT, WRONG):
                self.assertEqual(error_of(run, EXAMPLE, plan, given), ("NoGiven", {}))
            self.assertEqual(error_of(wanted, EXAMPLE, given), ("NoGiven", {}))

    def test_no_given_where_there_are_no_numbers(self):
        sheet = Sheet(5, ROW_OF_THREE, (0, 0, 0), (((),), (), ()))
        for given in (None, [], (0,), {}, "", 0):
            self.assertEqual(error_of(run, sheet, least_plan(sheet), given), ("NoGiven", {}))
            self.assertEqual(error_of(wanted, sheet, given), ("NoGiven", {}))


if __name__ == "__main__":
    unittest.main()
