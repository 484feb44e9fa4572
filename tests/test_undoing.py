"""Sheets undone, and givens that are unheard."""

import copy
import unittest

from sametolls.clocks import ladder
from sametolls.runs import wanted
from sametolls.sheets import Sheet
from sametolls.tolls import tolls
from sametolls.trees import Tree, ways
from sametolls.undoing import came_from, can_be_undone, undone, unheard
from tests.support import (EXAMPLE, ROW_OF_THREE, Dice, all_odd, all_rows, all_wanted, dealt, error_of, flat,
                           great_sheet, near_of, near_posts, room, row_tree, some_sheets, star_tree, undoable_sheet,
                           undoable_sheets)

PAIR = Tree(((0, 1),))
SHEETS = undoable_sheets(501, 60)
GREAT = [undoable_sheet(Dice(7), 999983, row_tree(24), 60), undoable_sheet(Dice(8), 2, star_tree(24, 5), 60),
         undoable_sheet(Dice(9), 3, row_tree(8), 60)]
TOO_FEW = Sheet(5, PAIR, (2, 1), (((1, 0, 0),), ((0, 1, 0),)))
TOO_MANY = Sheet(5, PAIR, (1, 1), (((1, 0),), ((0, 1), (1, 1))))
MIXED = Sheet(5, PAIR, (2, 1), (((1, 2, 3),), ((1, 0, 1), (2, 2, 4))))
NOUGHTS = Sheet(2, PAIR, (1, 1), (((0, 0),), ((1, 1),)))
EMPTY = Sheet(2, ROW_OF_THREE, (0, 0, 0), ((), (), ()))
NOT_UNDOABLE = [TOO_FEW, TOO_MANY, MIXED, NOUGHTS, Sheet(3, Tree(()), (0,), (((),),)),
                Sheet(3, Tree(()), (1,), ((),)), Sheet(2, PAIR, (1, 1), (((1, 1),), ((1, 1),)))]
NO_ANSWERS = all_odd() + [(), ((1,),), ((1,), (3,)), ((1,), (3,), (0,), ()), [(1,), (3,), (0,)], ((1,), [3], (0,)),
                          ((1,), (3,), ()), ((1, 1), (3,), (0,)), ((5,), (3,), (0,)), ((-1,), (3,), (0,)),
                          ((1,), (True,), (0,)), ((1,), (3,), (False,)), ((1,), (3,), (None,)), ((1,), (3,), ("0",)),
                          ((1,), (3,), ((0,),)), (1, 3, 0), "130", {0: (1,), 1: (3,), 2: (0,)}, ((1,), None, (0,)),
                          ((1,), "3", (0,)), ((1,), b"\x03", (0,)), ((1,), {0: 3}, (0,)), ((1,), (3,), (10 ** 59,)),
                          (((1,),), (3,), (0,)), ((1, 3, 0),), ([1], [3], [0])]


def counts_of(sheet):
    """How many sums each post wants."""
    return tuple(len(rows) for rows in sheet.wants)


class CanBeUndone(unittest.TestCase):
    def test_just_if_no_two_givens_have_all_wants_alike_and_there_are_as_many(self):
        small = some_sheets(502, 120, 3, 1, 2, (2, 3)) + undoable_sheets(503, 20, 3, 3, (2, 3))
        told = {True: 0, False: 0}
        for sheet in small:
            answers = {all_wanted(sheet, given) for given in all_rows(sheet.p, sheet.numbers)}
            can = len(answers) == sheet.p ** sheet.numbers and len(flat(sheet.wants)) == sheet.numbers
            told[can] += 1
            self.assertIs(can_be_undone(sheet), can)
        self.assertGreater(min(told.values()), 20)

    def test_those_made_to_be_undone(self):
        for sheet in SHEETS + GREAT + [EMPTY]:
            self.assertIs(can_be_undone(sheet), True)

    def test_those_that_can_not(self):
        for sheet in NOT_UNDOABLE:
            self.assertIs(can_be_undone(sheet), False)
            self.assertEqual(error_of(undone, sheet), ("NotUndoable", {}))
            for answers in (tuple((0,) * len(rows) for rows in sheet.wants), None, ()):
                self.assertEqual(error_of(came_from, sheet, answers), ("NotUndoable", {}))

    def test_one_want_of_a_great_one_otherwise(self):
        for sheet in GREAT:
            rows = flat(sheet.wants)
            for bad in (rows[:-1] + [rows[0]], [(0,) * 60] + rows[1:]):
                other = Sheet(sheet.p, sheet.tree, sheet.holds, dealt(counts_of(sheet), bad))
                self.assertIs(can_be_undone(other), False)
                self.assertEqual(error_of(undone, other), ("NotUndoable", {}))


class Undone(unittest.TestCase):
    def test_holds_what_was_wanted_and_wants_what_was_held(self):
        for sheet in SHEETS + GREAT:
            back = undone(sheet)
            self.assertIsInstance(back, Sheet)
            self.assertEqual((back.p, back.tree), (sheet.p, sheet.tree))
            self.assertEqual(back.holds, counts_of(sheet))
            self.assertEqual(counts_of(back), sheet.holds)
            dice = Dice(3)
            for _ in range(3):
                given = dice.row(sheet.p, sheet.numbers)
                answers = all_wanted(sheet, given)
                self.assertEqual(all_wanted(back, tuple(flat(answers))), dealt(sheet.holds, given))

    def test_twice_it_is_the_sheet(self):
        for sheet in SHEETS + GREAT + [EMPTY]:
            self.assertEqual(undone(undone(sheet)), sheet)

    def test_known_ones(self):
        self.assertEqual(undone(EXAMPLE).wants, (((1, 0, 0),), ((4, 1, 0),), ((1, 4, 1),)))
        self.assertEqual(undone(EXAMPLE).holds, (1, 1, 1))
        # The one post that holds both wants nothing: the other one, behind the tie, wants both.
        self.assertEqual(undone(Sheet(5, PAIR, (2, 0), ((), ((1, 1), (0, 2))))),
                         Sheet(5, PAIR, (0, 2), (((1, 2), (0, 3)), ())))
        self.assertEqual(undone(EMPTY), EMPTY)

    def test_tolls_by_the_fact_of_the_way_back(self):
        unlike = 0
        for sheet in SHEETS + GREAT:
            back = tolls(undone(sheet))
            for way, toll in tolls(sheet).items():
                near = near_posts(sheet.tree, way)
                above = sum(counts_of(sheet)[post] - sheet.holds[post] for post in near)
                self.assertEqual(back[way], toll + above)
                unlike += above != 0
            if counts_of(sheet) == sheet.holds:
                self.assertEqual(back, tolls(sheet))
        self.assertGreater(unlike, 20)

    def test_a_sheet_stays_as_it_was(self):
        sheet = copy.deepcopy(EXAMPLE)
        undone(sheet)
        came_from(sheet, ((1,), (3,), (0,)))
        self.assertEqual(sheet, EXAMPLE)
        self.assertEqual(undone(sheet), undone(sheet))


class CameFrom(unittest.TestCase):
    def test_the_given_whose_wants_are_the_answers(self):
        for sheet in SHEETS + GREAT:
            dice = Dice(4)
            for _ in range(4):
                given = dice.row(sheet.p, sheet.numbers)
                found = came_from(sheet, wanted(sheet, given))
                self.assertIsInstance(found, tuple)
                self.assertEqual(found, given)

    def test_all_answers_have_a_given(self):
        for sheet in undoable_sheets(504, 12, 3, 3, (2, 3)):
            for values in all_rows(sheet.p, sheet.numbers):
                answers = dealt(counts_of(sheet), values)
                self.assertEqual(all_wanted(sheet, came_from(sheet, answers)), answers)

    def test_known_ones(self):
        self.assertEqual(came_from(EXAMPLE, ((1,), (3,), (0,))), (1, 2, 3))
        self.assertEqual(came_from(EMPTY, ((), (), ())), ())

    def test_no_answers(self):
        for thing in NO_ANSWERS:
            self.assertEqual(error_of(came_from, EXAMPLE, thing), ("NoAnswers", {}), thing)
        for thing in (((0,), (), ()), ((), ()), (), None, [(), (), ()]):
            self.assertEqual(error_of(came_from, EMPTY, thing), ("NoAnswers", {}))

    def test_answers_are_judged_by_wants_not_by_numbers(self):
        sheet = Sheet(5, PAIR, (2, 0), ((), ((1, 1), (0, 2))))
        self.assertEqual(came_from(sheet, ((), (3, 4))), (1, 2))
        for thing in (((3, 4), ()), ((3,), (4,)), ((), (3,)), ((), (3, 4, 0))):
            self.assertEqual(error_of(came_from, sheet, thing), ("NoAnswers", {}))
        self.assertEqual(error_of(came_from, undoable_sheets(1, 0)[1], ((True,),)), ("NoAnswers", {}))


class Unheard(unittest.TestCase):
    def check(self, sheet, way):
        far = [number for number in range(sheet.numbers) if number not in near_of(sheet, way)]
        there = [post for post in range(sheet.tree.posts) if post not in near_posts(sheet.tree, way)]
        rows = set()
        for given in all_rows(sheet.p, sheet.numbers):
            answers = all_wanted(sheet, given)
            if not any(given[number] for number in far) and not any(flat(answers[post] for post in there)):
                rows.add(given)
        found = unheard(sheet, way)
        self.assertIsInstance(found, tuple)
        self.assertEqual(room(sheet.p, sheet.numbers, found), rows)
        self.assertEqual(found, ladder(sheet.p, sheet.numbers, found))

    def test_all_givens_gone_through(self):
        for sheet in some_sheets(505, 60, 4, 1, 2, (2, 3)) + undoable_sheets(506, 20, 4, 4, (2, 3)):
            for way in ways(sheet.tree):
                self.check(sheet, way)

    def test_as_many_as_are_held_this_side_less_the_toll(self):
        for sheet in some_sheets(507, 60, 7, 3, 3) + SHEETS + [great_sheet(), great_sheet(2, star_tree(24, 3))]:
            least = tolls(sheet)
            for way in ways(sheet.tree):
                found = unheard(sheet, way)
                self.assertEqual(len(found), len(near_of(sheet, way)) - least[way])
                self.assertTrue(all(len(row) == sheet.numbers for row in found))

    def test_by_the_fact_of_the_unheard(self):
        for sheet in SHEETS + GREAT[:1]:
            back = undone(sheet)
            for way in ways(sheet.tree):
                rows = [tuple(flat(all_wanted(sheet, given))) for given in unheard(sheet, way)]
                self.assertEqual(ladder(sheet.p, sheet.numbers, rows), unheard(back, way))

    def test_known_ones(self):
        self.assertEqual(unheard(EXAMPLE, (0, 1)), ())
        self.assertEqual(unheard(EXAMPLE, (1, 0)), ((0, 1, 0), (0, 0, 1)))
        self.assertEqual(unheard(EXAMPLE, (1, 2)), ((1, 0, 0),))
        self.assertEqual(unheard(EXAMPLE, (2, 1)), ((0, 0, 1),))
        self.assertEqual(unheard(Sheet(5, PAIR, (2, 1), ((), ((1, 2, 1),))), (0, 1)), ((1, 2, 0),))
        self.assertEqual(unheard(EMPTY, (0, 1)), ())

    def test_no_way(self):
        for thing in all_odd() + [(0, 2), (2, 0), (0, 0), (0, 3), (-1, 0), [0, 1], (True, 0), (0, True), (0, 1, 2),
                                  (), (0,), ((0, 1),), ("0", "1"), (0, [1]), {}, (0, 10 ** 59)]:
            self.assertEqual(error_of(unheard, EXAMPLE, thing), ("NoWay", {}))
        self.assertEqual(error_of(unheard, Sheet(2, Tree(()), (1,), ((),)), (0, 0)), ("NoWay", {}))


if __name__ == "__main__":
    unittest.main()
