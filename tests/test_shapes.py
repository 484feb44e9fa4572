"""Which things are plans."""

import copy
import unittest

from sametolls.plans import counts, first_wrong, is_right, is_shape, least_plan, said
from sametolls.sheets import Sheet
from sametolls.trees import Tree
from tests.support import EXAMPLE, ROW_OF_THREE, all_odd, error_of, full_plan, odd_things, some_sheets

SHEET = Sheet(5, ROW_OF_THREE, (2, 1, 1), (((0, 0, 1, 1),), ((1, 0, 1, 0), (0, 1, 0, 4)), ((1, 1, 1, 1),)))
PLAN = least_plan(SHEET)
WAYS = [(0, 1), (1, 0), (1, 2), (2, 1)]
VALUES = odd_things() + [5, -1, 10 ** 59, (1,), [1], [], (), {}, {0: 1}]
ROWS = all_odd() + [[0, 0], (0,) * 40, "00", b"\x00\x00", 0, 7, {0: 0, 1: 0}]


def with_says(plan, way, rows):
    """A plan with other rows over a way."""
    return {**plan[0], way: rows}, plan[1]


def with_answers(plan, post, rows):
    """A plan with other answers of a post."""
    return plan[0], plan[1][:post] + (rows,) + plan[1][post + 1:]


def spoilt(rows):
    """Tuples of rows with one thing otherwise, by which they are none of the form."""
    found = [list(rows), None, {}, dict(enumerate(rows)), "rows", 0] + all_odd()
    for number, row in enumerate(rows):
        for bad in ROWS + [row + (0,), row[:-1], list(row), (row,)]:
            if bad != row:
                found.append(rows[:number] + (bad,) + rows[number + 1:])
        for place in range(len(row)):
            for value in VALUES:
                bad = row[:place] + (value,) + row[place + 1:]
                found.append(rows[:number] + (bad,) + rows[number + 1:])
    return found


class Shapes(unittest.TestCase):
    def no_plan(self, thing, sheet=SHEET):
        self.assertIs(is_shape(sheet, thing), False, thing)
        self.assertIs(is_right(sheet, thing), False)

    def test_plans(self):
        for sheet in some_sheets(41, 60) + [SHEET]:
            for plan in (least_plan(sheet), full_plan(sheet)):
                self.assertIs(is_shape(sheet, plan), True)
                self.assertIs(is_right(sheet, plan), True)

    def test_other_things(self):
        for thing in all_odd() + [(), ({},), ({}, ()), list(PLAN), PLAN + ((),), PLAN[:1], PLAN[::-1], PLAN[0],
                                  PLAN[1], {0: PLAN[0], 1: PLAN[1]}, (PLAN,), ([], PLAN[1]), (PLAN[0], [])]:
            self.no_plan(thing)

    def test_ways_lacking_more_others(self):
        says, answers = PLAN
        for way in WAYS:
            self.no_plan(({other: says[other] for other in WAYS if other != way}, answers))
            for other in ((0, 2), (2, 0), (0, 0), (0, 1, 2), (1,), 0, "01", None, (0, 3), (-1, 0), (0, "1"),
                          ((0, 1),), Tree, (None, 1), b"01"):
                more = {**says, other: ()}
                self.no_plan((more, answers))
                del more[way]
                self.no_plan((more, answers))
        self.no_plan((tuple(says.items()), answers))
        self.no_plan((list(says), answers))
        self.no_plan(([(way, says[way]) for way in WAYS], answers))

    def test_ways_exchanged(self):
        says = dict(PLAN[0])
        self.assertNotEqual(len(says[0, 1]), len(says[2, 1]))
        says[0, 1], says[2, 1] = says[2, 1], says[0, 1]
        self.no_plan((says, PLAN[1]))

    def test_the_order_of_keys_means_nothing(self):
        for order in (WAYS, WAYS[::-1], WAYS[2:] + WAYS[:2]):
            plan = {way: PLAN[0][way] for way in order}, PLAN[1]
            self.assertIs(is_right(SHEET, plan), True)

    def test_one_thing_of_what_is_said_otherwise(self):
        for way in WAYS:
            for rows in spoilt(PLAN[0][way]):
                self.check_spoilt(with_says(PLAN, way, rows), rows, PLAN[0][way])

    def test_one_thing_of_the_answers_otherwise(self):
        for post in range(3):
            for rows in spoilt(PLAN[1][post]):
                self.check_spoilt(with_answers(PLAN, post, rows), rows, PLAN[1][post])
        for answers in (PLAN[1][:2], PLAN[1] + ((),), PLAN[1][::-1], list(PLAN[1]), (), None):
            self.no_plan((PLAN[0], answers))

    def check_spoilt(self, plan, rows, kept):
        if isinstance(rows, tuple) and rows == kept:
            return
        self.no_plan(plan)
        for call in (first_wrong, counts):
            self.assertEqual(error_of(call, SHEET, plan), ("NoPlan", {}))
        self.assertEqual(error_of(said, SHEET, plan, (0, 1)), ("NoPlan", {}))

    def test_flags_are_no_values(self):
        self.no_plan(with_says(PLAN, (0, 1), ((True, False), (False, True))))
        self.no_plan(with_answers(PLAN, 0, ((False, False, True),)))

    def test_a_row_left_out_or_twice(self):
        for way in WAYS:
            rows = PLAN[0][way]
            self.no_plan(with_says(PLAN, way, rows[1:]))
            self.no_plan(with_says(PLAN, way, rows + rows[:1]))
        for post in range(3):
            rows = PLAN[1][post]
            self.no_plan(with_answers(PLAN, post, rows[1:]))
            self.no_plan(with_answers(PLAN, post, rows + rows[:1]))
        # With answers that are as long as is due then, a row that is said twice does no harm.
        twice = {**PLAN[0], (1, 2): PLAN[0][1, 2] + PLAN[0][1, 2][:1]}
        answers = PLAN[1][:2] + (tuple(row + (0,) for row in PLAN[1][2]),)
        self.assertIs(is_right(SHEET, (twice, answers)), True)
        self.no_plan((twice, PLAN[1]))

    def test_values_of_the_clock(self):
        row = PLAN[1][0][0]
        for value in (0, 1, 4):
            self.assertIs(is_shape(SHEET, with_answers(PLAN, 0, ((value,) + row[1:],))), True)
        for value in (5, 6, -1):
            self.no_plan(with_answers(PLAN, 0, ((value,) + row[1:],)))

    def test_sixty_rows_and_sixty_one(self):
        sheet = Sheet(3, Tree(((0, 1),)), (1, 1), (((1, 1),), ((2, 0),)))
        for many in (0, 1, 59, 60, 61, 62):
            says = {(0, 1): ((1,),), (1, 0): ((1,),) * many}
            plan = says, (((1,) + (0,) * many,), ((0, 2),))
            self.assertIs(is_shape(sheet, plan), many <= 60)
            self.assertIs(is_right(sheet, plan), False)
            says = {(0, 1): ((1,),) * many, (1, 0): ((1,),)}
            plan = says, (((1, 1),), ((0, 2) + (0,) * (many - 1),))
            self.assertIs(is_shape(sheet, plan), 1 <= many <= 60)
            self.assertIs(is_right(sheet, plan), 1 <= many <= 60)

    def test_the_items_that_rows_are_as_long_as(self):
        tree = Tree(((0, 1), (0, 2), (0, 3)))
        sheet = Sheet(2, tree, (1, 2, 0, 1), ((), (), ((1, 1, 0, 1),), ()))
        says = {(1, 0): ((1, 0), (0, 1)), (2, 0): (), (3, 0): ((1,),), (0, 1): ((1, 1),), (0, 2): ((1, 1, 0, 1),),
                (0, 3): ((0, 1, 1), (1, 0, 0))}
        plan = says, ((), (), ((1,),), ())
        self.assertIs(is_right(sheet, plan), True)
        for way, rows in (((0, 1), ((1, 1, 0),)), ((0, 3), ((0, 1, 1, 0),)), ((0, 2), ((1, 1, 1),)),
                          ((0, 3), ((0, 1),)), ((2, 0), ((0, 0),)), ((1, 0), ((1,), (0,)))):
            self.no_plan(with_says(plan, way, rows), sheet)
        heard_back = with_says(plan, (2, 0), ((0,),))
        self.no_plan(heard_back, sheet)

    def test_a_single_post(self):
        sheet = Sheet(5, Tree(()), (2,), (((1, 4), (0, 0)),))
        for thing, right in ((({}, (((1, 4), (0, 0)),)), True), (({}, (((1, 3), (0, 0)),)), False)):
            self.assertIs(is_shape(sheet, thing), True)
            self.assertIs(is_right(sheet, thing), right)
        for thing in (((), (((1, 4), (0, 0)),)), ({}, ()), ({}, ((),)), ({}, (((1, 4),),)), ({(0, 1): ()}, PLAN[1]),
                      ({(0, 0): ()}, (((1, 4), (0, 0)),))):
            self.no_plan(thing, sheet)

    def test_no_numbers(self):
        sheet = Sheet(5, ROW_OF_THREE, (0, 0, 0), (((),), (), ()))
        plan = {way: () for way in WAYS}, (((),), (), ())
        self.assertIs(is_right(sheet, plan), True)
        said_nought = {**plan[0], (0, 1): ((), ())}, plan[1]
        self.assertIs(is_shape(sheet, said_nought), True)
        self.no_plan(({**plan[0], (1, 0): ((),)}, plan[1]), sheet)

    def test_a_plan_for_another_sheet(self):
        self.no_plan(PLAN, EXAMPLE)
        self.no_plan(least_plan(EXAMPLE))
        self.assertIs(is_shape(EXAMPLE, least_plan(EXAMPLE)), True)

    def test_plans_stay_as_they_were(self):
        plan = copy.deepcopy(PLAN)
        is_shape(SHEET, plan)
        is_right(SHEET, plan)
        self.assertEqual(plan, PLAN)


if __name__ == "__main__":
    unittest.main()
