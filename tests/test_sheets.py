"""Sheets: what may stand in them, what posts hold, and blocks."""

import copy
import unittest

from sametolls.sheets import Sheet, block, held
from sametolls.trees import Tree, ways
from tests.support import (EXAMPLE, ROW_OF_THREE, all_odd, error_of, great_sheet, near_of, numbers_at, row_tree,
                           some_sheets, star_tree, wants_beyond)

PAIR = Tree(((0, 1),))
HOLDS = (2, 1)
WANTS = (((1, 0, 0),), ((1, 1, 0), (0, 1, 4)))
NO_CLOCKS = all_odd() + [0, 1, 4, 1000003, "5", (5,)]
NO_HOLDS = all_odd() + [(), (1,), (1, 1, 1), [2, 1], (2, -1), (-1, 2), (9, 0), (0, 9), (2, True), (False, 1),
                        (2, None), (2, "1"), (2, (1,)), ("2", 1), 3, {0: 2, 1: 1}, (2, [1]), (10 ** 59, 1), "21"]
# Two tuples of few things are told by the first that is no row.
NO_WANTS = [thing for thing in all_odd() if not (isinstance(thing, tuple) and len(thing) == 2
                                                 and all(isinstance(part, tuple) for part in thing))]
NO_WANTS += [(), ((),), ((), (), ()), [(), ()], ([], ()), ((), []), ((), {}), ((), None), (None, ()),
                        ((), 0), ((), ((0, 0, 0),) * 9), (((0, 0, 0),) * 9, ()), ((None,) * 9, (None,)), "ab",
                        {0: (), 1: ()}, (("",), ((),), ()), ((), [(1, 1, 1)]), ((), "abc")]
NO_ROWS = all_odd() + [(), (1,), (1, 1), (1, 1, 1, 1), [1, 1, 1], (1, 1, 5), (5, 1, 1), (1, -1, 1), (1, True, 1),
                       (False, 1, 1), (1, None, 1), (1, (1,), 1), ("1", 1, 1), "111", {0: 1, 1: 1, 2: 1}, 0,
                       (1, 1, 10 ** 59), (1, 1, [1])]


class Bad(unittest.TestCase):
    def bad(self, part, *args):
        self.assertEqual(error_of(Sheet, *args), ("BadSheet", {"part": part}))

    def test_clock(self):
        for p in NO_CLOCKS:
            self.bad("clock", p, PAIR, HOLDS, WANTS)
            self.bad("clock", p, None, None, None)

    def test_tree(self):
        for tree in all_odd() + [((0, 1),), [], (), 2, PAIR.ties, Tree]:
            if not isinstance(tree, Tree):
                self.bad("tree", 5, tree, HOLDS, WANTS)
                self.bad("tree", 5, tree, None, None)

    def test_holds(self):
        for holds in NO_HOLDS:
            self.bad("holds", 5, PAIR, holds, WANTS)
            self.bad("holds", 5, PAIR, holds, None)

    def test_sixty_numbers_and_sixty_one(self):
        tree = row_tree(8)
        none = ((),) * 8
        self.assertEqual(Sheet(5, tree, (8,) * 7 + (4,), none).numbers, 60)
        self.bad("holds", 5, tree, (8,) * 7 + (5,), none)
        self.bad("holds", 5, tree, (8,) * 8, none)
        self.bad("holds", 5, tree, (5,) + (8,) * 7, None)

    def test_eight_and_nine_numbers_at_a_post(self):
        one = Tree(())
        for count in range(9):
            self.assertEqual(Sheet(5, one, (count,), ((),)).numbers, count)
        self.bad("holds", 5, one, (9,), ((),))

    def test_wants(self):
        for wants in NO_WANTS:
            self.bad("wants", 5, PAIR, HOLDS, wants)

    def test_wants_that_are_none_come_ahead_of_rows(self):
        self.bad("wants", 5, PAIR, HOLDS, ((None,), None))
        self.bad("wants", 5, PAIR, HOLDS, ((None,), ((1, 0, 0),) * 9))

    def test_the_first_that_is_no_row(self):
        for row in NO_ROWS:
            self.bad((0, 0), 5, PAIR, HOLDS, ((row,), (None,)))
            self.bad((1, 1), 5, PAIR, HOLDS, (((1, 1, 1),) * 3, ((0, 0, 0), row, None)))
            self.bad((0, 2), 5, PAIR, HOLDS, (((1, 1, 1), (0, 0, 0), row), (row,)))
            self.bad((1, 7), 5, PAIR, HOLDS, ((), ((1, 1, 1),) * 7 + (row,)))

    def test_two_tuples_of_no_rows(self):
        self.bad((0, 0), 5, PAIR, HOLDS, ((None, 0), (0, None)))
        self.bad((0, 0), 5, PAIR, HOLDS, (("a", "b"), ("c", "d")))
        self.bad((1, 0), 5, PAIR, HOLDS, ((), ((),)))

    def test_rows_are_judged_by_the_clock(self):
        self.bad((0, 0), 2, PAIR, HOLDS, (((0, 1, 2),), ()))
        self.assertIsNone(error_of(Sheet, 3, PAIR, HOLDS, (((0, 1, 2),), ())))

    def test_sixty_wants_and_sixty_one(self):
        tree = row_tree(8)
        row = (1,) + (0,) * 7
        right = ((row,) * 8,) * 7
        self.assertEqual(len(Sheet(5, tree, (1,) * 8, right + ((row,) * 4,)).wants), 8)
        self.bad("many", 5, tree, (1,) * 8, right + ((row,) * 5,))
        self.bad("many", 5, tree, (1,) * 8, right + ((row,) * 8,))
        self.bad((7, 4), 5, tree, (1,) * 8, right + ((row,) * 4 + ((1,),),))

    def test_eight_wants_at_a_post(self):
        rows = ((1, 2),) * 8
        self.assertEqual(Sheet(5, Tree(()), (2,), (rows,)).wants, (rows,))
        self.bad("wants", 5, Tree(()), (2,), (rows + rows[:1],))

    def test_parts_in_their_order(self):
        args = [5, PAIR, HOLDS, WANTS]
        wrong = [4, None, None, None]
        parts = ["clock", "tree", "holds", "wants"]
        for first in range(4):
            self.bad(parts[first], *(args[:first] + wrong[first:]))


class Kept(unittest.TestCase):
    def test_attributes(self):
        sheet = Sheet(5, PAIR, HOLDS, WANTS)
        self.assertEqual((sheet.p, sheet.tree, sheet.holds, sheet.wants, sheet.numbers), (5, PAIR, HOLDS, WANTS, 3))

    def test_posts_that_hold_or_want_nothing(self):
        sheet = Sheet(2, ROW_OF_THREE, (0, 0, 0), ((), ((), ()), ()))
        self.assertEqual((sheet.numbers, sheet.wants), (0, ((), ((), ()), ())))
        self.assertEqual(block(sheet, (0, 1)), ((), ()))
        self.assertEqual(block(sheet, (1, 2)), ())
        self.assertEqual([held(sheet, post) for post in range(3)], [(), (), ()])

    def test_equal_just_if_all_are(self):
        args = [5, PAIR, HOLDS, WANTS]
        sheet = Sheet(*args)
        self.assertIs(sheet == Sheet(*copy.deepcopy(args)), True)
        self.assertIs(sheet != Sheet(*args), False)
        others = [Sheet(7, PAIR, HOLDS, WANTS), Sheet(5, PAIR, (1, 2), WANTS),
                  Sheet(5, PAIR, HOLDS, (WANTS[1], WANTS[0])), Sheet(5, PAIR, HOLDS, (WANTS[0], WANTS[1][:1]))]
        for other in others:
            self.assertIs(sheet == other, False)
            self.assertIs(sheet != other, True)
        wants = (((1, 0, 0),),) * 3
        self.assertIs(Sheet(5, row_tree(3), (1, 1, 1), wants) == Sheet(5, star_tree(3), (1, 1, 1), wants), False)
        self.assertIs(Sheet(5, star_tree(3, 1), (1, 1, 1), wants) == Sheet(5, row_tree(3), (1, 1, 1), wants), True)

    def test_equal_to_no_other_kind(self):
        for thing in all_odd() + [PAIR, HOLDS, WANTS, (5, PAIR, HOLDS, WANTS), [], 5]:
            if thing is not EXAMPLE:
                self.assertIs(EXAMPLE == thing, False)
                self.assertIs(EXAMPLE != thing, True)


class Held(unittest.TestCase):
    def test_numbers_post_by_post(self):
        for sheet in some_sheets(1, 30, 7, 8) + [great_sheet()]:
            for post in range(sheet.tree.posts):
                found = held(sheet, post)
                self.assertIsInstance(found, tuple)
                self.assertEqual(found, tuple(numbers_at(sheet, post)))
        self.assertEqual([held(Sheet(5, ROW_OF_THREE, (2, 0, 3), ((),) * 3), post) for post in range(3)],
                         [(0, 1), (), (2, 3, 4)])

    def test_no_post(self):
        for thing in all_odd() + [3, 4, (0,), [0], "0", {}]:
            self.assertEqual(error_of(held, EXAMPLE, thing), ("NoPost", {}))


class Blocks(unittest.TestCase):
    def test_wants_beyond_cut_down_to_numbers_this_side(self):
        for sheet in some_sheets(2, 60, 7, 3, 3) + [great_sheet(), great_sheet(2, star_tree(24, 11))]:
            for way in ways(sheet.tree):
                near = near_of(sheet, way)
                rows = tuple(tuple(sheet.wants[post][want][number] for number in near)
                             for post, want in wants_beyond(sheet, way))
                self.assertEqual(block(sheet, way), rows)

    def test_known_ones(self):
        self.assertEqual(block(EXAMPLE, (1, 2)), ((0, 1),))
        self.assertEqual(block(EXAMPLE, (0, 1)), ((1,), (0,)))
        self.assertEqual(block(EXAMPLE, (1, 0)), ((0, 0),))
        self.assertEqual(block(EXAMPLE, (2, 1)), ((0,), (0,)))
        tree = Tree(((0, 3), (1, 3), (2, 3)))
        sheet = Sheet(7, tree, (1, 1, 1, 2), (((1, 2, 3, 4, 5),), (), ((6, 5, 4, 3, 2), (0, 1, 0, 1, 0)), ()))
        self.assertEqual(block(sheet, (3, 2)), ((6, 5, 3, 2), (0, 1, 1, 0)))
        self.assertEqual(block(sheet, (1, 3)), ((2,), (5,), (1,)))

    def test_no_way(self):
        for thing in all_odd() + [(0, 2), (2, 0), (0, 0), (0, 3), (-1, 0), [0, 1], (True, 0), (0, True), (0, 1, 2),
                                  (), (0,), ((0, 1),), ("0", "1"), (0, [1]), {}]:
            self.assertEqual(error_of(block, EXAMPLE, thing), ("NoWay", {}))

    def test_a_sheet_stays_as_it_was(self):
        sheet = Sheet(5, PAIR, HOLDS, WANTS)
        for way in ways(PAIR):
            block(sheet, way)
            error_of(block, sheet, None)
        self.assertEqual(sheet, Sheet(5, PAIR, HOLDS, WANTS))


if __name__ == "__main__":
    unittest.main()
