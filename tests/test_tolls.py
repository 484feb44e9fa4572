"""Tolls of ways, and the squares that prove them."""

import unittest
from itertools import combinations

from sametolls.clocks import determinant
from sametolls.sheets import Sheet
from sametolls.tolls import is_toll_square, toll, toll_square, tolls
from sametolls.trees import Tree, ways
from tests.support import (EXAMPLE, ROW_OF_THREE, all_odd, all_rows, dot, error_of, great_sheet, near_of, room,
                           row_tree, some_sheets, star_tree, units, wants_beyond)

NO_WAYS = all_odd() + [(0, 2), (2, 0), (0, 0), (0, 3), (-1, 0), [0, 1], (True, 0), (0, True), (0, 1, 2), (), (0,),
                       ((0, 1),), ("0", "1"), (0, [1]), {}]
SHEETS = some_sheets(31, 60)
SMALL = some_sheets(32, 60, 4, 2, 2, (2, 3))


def cut_block(sheet, way):
    """The rows of a block by its own words."""
    near = near_of(sheet, way)
    return [tuple(sheet.wants[post][want][number] for number in near) for post, want in wants_beyond(sheet, way)]


class Tolls(unittest.TestCase):
    def test_unlike_sums_over_all_that_is_held_this_side(self):
        for sheet in SMALL:
            for way in ways(sheet.tree):
                rows = cut_block(sheet, way)
                sums = {tuple(dot(sheet.p, row, given) for row in rows)
                        for given in all_rows(sheet.p, len(near_of(sheet, way)))}
                self.assertEqual(len(sums), sheet.p ** toll(sheet, way))

    def test_all_ways(self):
        for sheet in SHEETS + [great_sheet()]:
            found = tolls(sheet)
            self.assertIsInstance(found, dict)
            self.assertEqual(found, {way: toll(sheet, way) for way in ways(sheet.tree)})

    def test_known_ones(self):
        self.assertEqual(tolls(EXAMPLE), {(0, 1): 1, (1, 0): 0, (1, 2): 1, (2, 1): 0})
        last = ((), (), tuple(units(6)))
        self.assertEqual(tolls(Sheet(3, ROW_OF_THREE, (2, 1, 3), last)), {(0, 1): 2, (1, 0): 0, (1, 2): 3, (2, 1): 0})
        middle = Sheet(3, star_tree(4), (0, 3, 2, 1), (((1, 1, 1, 1, 1, 1), (1, 2, 0, 0, 2, 0)), (), (), ()))
        self.assertEqual(tolls(middle), {(0, 1): 0, (1, 0): 2, (0, 2): 0, (2, 0): 2, (0, 3): 0, (3, 0): 1})
        same = Sheet(5, Tree(((0, 1),)), (2, 0), ((), ((1, 2), (2, 4), (3, 1))))
        self.assertEqual(tolls(same), {(0, 1): 1, (1, 0): 0})

    def test_great_ones(self):
        sheet = great_sheet()
        near = 0
        for post in range(23):
            near += sheet.holds[post]
            self.assertEqual(toll(sheet, (post, post + 1)), min(near, 60 - near))
        tree = star_tree(24, 23)
        stars = Sheet(2, tree, (3, 2) * 12, tuple(tuple(units(60)[:2 + post % 2]) for post in range(24)))
        expected = {way: 0 for way in ways(tree)}
        for post in range(1, 23):
            expected[23, post] = 2 + post % 2
        expected[0, 23] = 3
        self.assertEqual(tolls(stars), expected)

    def test_nothing_held_or_wanted(self):
        self.assertEqual(tolls(Sheet(5, Tree(()), (2,), (((1, 1),),))), {})
        zero = {(0, 1): 0, (1, 0): 0, (1, 2): 0, (2, 1): 0}
        self.assertEqual(tolls(Sheet(5, ROW_OF_THREE, (0, 0, 0), (((),), (), ((), ())))), zero)
        self.assertEqual(tolls(Sheet(5, ROW_OF_THREE, (1, 8, 1), ((), (), ()))), zero)
        noughts = ((0, 0, 0),) * 8
        self.assertEqual(tolls(Sheet(5, ROW_OF_THREE, (1, 1, 1), (noughts, noughts, noughts))), zero)

    def test_dicts_are_new(self):
        tolls(EXAMPLE).clear()
        first = tolls(EXAMPLE)
        first[0, 1] = 9
        self.assertEqual(tolls(EXAMPLE)[0, 1], 1)

    def test_no_way(self):
        for thing in NO_WAYS:
            self.assertEqual(error_of(toll, EXAMPLE, thing), ("NoWay", {}))
            self.assertEqual(error_of(toll_square, EXAMPLE, thing), ("NoWay", {}))
            for pair in (((), ()), None, thing):
                self.assertEqual(error_of(is_toll_square, EXAMPLE, thing, pair), ("NoWay", {}))


class Squares(unittest.TestCase):
    def test_each_that_is_told(self):
        for sheet in SHEETS + [great_sheet(), great_sheet(2, star_tree(24))]:
            for way in ways(sheet.tree):
                pair = toll_square(sheet, way)
                self.assertIsInstance(pair, tuple)
                wants, numbers = pair
                self.assertIsInstance(wants, tuple)
                self.assertIsInstance(numbers, tuple)
                self.assertEqual((len(wants), len(numbers)), (toll(sheet, way),) * 2)
                self.assertEqual((wants, numbers), (tuple(sorted(set(wants))), tuple(sorted(set(numbers)))))
                self.assertLessEqual(set(wants), set(wants_beyond(sheet, way)))
                self.assertLessEqual(set(numbers), set(near_of(sheet, way)))
                rows = [tuple(sheet.wants[post][want][number] for number in numbers) for post, want in wants]
                self.assertNotEqual(determinant(sheet.p, rows), 0)
                self.assertIs(is_toll_square(sheet, way, pair), True)

    def test_all_pairs_of_few_wants_and_numbers(self):
        seen = {True: 0, False: 0}
        for sheet in SMALL[:30]:
            for way in ways(sheet.tree):
                far = wants_beyond(sheet, way)
                near = near_of(sheet, way)
                for many in range(len(far) + 1):
                    for wants in combinations(far, many):
                        for numbers in (some for size in (many - 1, many, many + 1) if 0 <= size
                                        for some in combinations(near, size)):
                            self.check(sheet, way, wants, numbers, seen)
        self.assertGreater(min(seen.values()), 100)

    def check(self, sheet, way, wants, numbers, seen):
        rows = [tuple(sheet.wants[post][want][number] for number in numbers) for post, want in wants]
        right = (len(wants) == len(numbers) == toll(sheet, way)
                 and len(room(sheet.p, len(numbers), rows)) == sheet.p ** len(wants))
        self.assertIs(is_toll_square(sheet, way, (wants, numbers)), right)
        seen[right] += 1

    def test_one_thing_otherwise(self):
        sheet = Sheet(5, ROW_OF_THREE, (2, 2, 1), (((0, 1, 1, 0, 0),), ((1, 0, 0, 0, 0), (1, 1, 0, 1, 0)),
                                                   ((1, 3, 0, 0, 1), (0, 1, 1, 1, 0))))
        way = (0, 1)
        wants, numbers = ((1, 0), (2, 0)), (0, 1)
        self.assertIs(is_toll_square(sheet, way, (wants, numbers)), True)
        for others in (((1, 0), (1, 1)), ((1, 0), (2, 1)), ((2, 0), (2, 1))):
            self.assertIs(is_toll_square(sheet, way, (others, numbers)), True)
        others = [((1, 0),), (), wants + wants[1:], ((2, 0), (1, 0)), ((1, 0), (1, 0)), [(1, 0), (2, 0)],
                  ((1, 0), (0, 0)), ((0, 0), (1, 0)), ((1, 0), (2, 2)), ((1, 0), (3, 0)), ((True, 0), (2, 0)),
                  ((1, False), (2, 0)), ((1, 0), [2, 0]), ((1, 0), (2, 0, 0)), ((1, 0), (2,)), ((1, 0), (2, None)),
                  ((1, 0), (2, -1)), ((1, 0), (-1, 0)), ((1, 0), 2), ((1, 0), (2, (0,))), ((1, 0), ("2", 0)),
                  ((1, 0), (2, 10 ** 59)), ((-2, 0), (2, 0)), {(1, 0): 0, (2, 0): 0}]
        for other in others + all_odd():
            self.assertIs(is_toll_square(sheet, way, (other, numbers)), False, other)
        others = [(0,), (), (0, 1, 2), (1, 0), (0, 0), [0, 1], (0, 2), (0, 4), (0, 5), (0, -1), (-1, 1), (False, 1),
                  (0, True), (0, None), (0, (1,)), (0, "1"), ("0", "1"), "01", b"\x00\x01", {0: 0, 1: 0}, range(2),
                  (0, 10 ** 59), (0, [1])]
        for other in others + all_odd():
            self.assertIs(is_toll_square(sheet, way, (wants, other)), False, other)

    def test_a_determinant_of_nought(self):
        sheet = Sheet(5, Tree(((0, 1),)), (3, 0), ((), ((1, 2, 0), (2, 4, 0), (0, 0, 1))))
        self.assertIs(is_toll_square(sheet, (0, 1), (((1, 0), (1, 2)), (0, 2))), True)
        self.assertIs(is_toll_square(sheet, (0, 1), (((1, 0), (1, 1)), (0, 2))), False)
        self.assertIs(is_toll_square(sheet, (0, 1), (((1, 0), (1, 2)), (0, 1))), False)
        self.assertIs(is_toll_square(sheet, (0, 1), (((1, 0),), (0,))), False)
        self.assertIs(is_toll_square(sheet, (0, 1), (((1, 0), (1, 1), (1, 2)), (0, 1, 2))), False)

    def test_other_things(self):
        for thing in all_odd() + [(), ((),), ((), (), ()), [(), ()], {}, ([], []), ((), []), ([], ()),
                                  (((1, 0),), (0,), ()), [((1, 0),), (0,)]]:
            self.assertIs(is_toll_square(EXAMPLE, (0, 1), thing), False)
        self.assertIs(is_toll_square(EXAMPLE, (0, 1), (((1, 0),), (0,))), True)
        self.assertIs(is_toll_square(EXAMPLE, (0, 1), (((2, 0),), (0,))), False)

    def test_a_toll_of_nought(self):
        sheet = Sheet(5, row_tree(2), (1, 1), ((), ()))
        self.assertEqual(toll_square(sheet, (0, 1)), ((), ()))
        self.assertIs(is_toll_square(sheet, (0, 1), ((), ())), True)
        for thing in (((), (0,)), (((1, 0),), ()), ([], ()), ((), []), [(), ()], ((),), ((), (), ())):
            self.assertIs(is_toll_square(sheet, (0, 1), thing), False)


if __name__ == "__main__":
    unittest.main()
