"""Sheets mirrored, staying, put one behind the other, and summed."""

import copy
import unittest

from sametolls.plans import is_right, least_plan
from sametolls.sheets import Sheet
from sametolls.tolls import tolls
from sametolls.trees import Tree, ways
from sametolls.undoing import behind, mirrored, staying, summed, undone
from tests.support import (EXAMPLE, ROW_OF_THREE, Dice, add, all_odd, all_wanted, dealt, error_of, flat, great_sheet,
                           row_tree, some_counts, some_sheets, some_tree, star_tree, undoable_sheets, units)

PAIR = Tree(((0, 1),))
ONE = Tree(())
CLOCKS = (2, 3, 101, 999983)
NO_COUNTS = all_odd() + [(), (1,), (1, 1, 1), [2, 1], (2, -1), (-1, 2), (9, 0), (0, 9), (2, True), (False, 1),
                         (2, None), (2, "1"), (2, (1,)), ("2", 1), 3, {0: 2, 1: 1}, (2, [1]), (10 ** 59, 1), "21"]


def counts_of(sheet):
    """How many sums each post wants."""
    return tuple(len(rows) for rows in sheet.wants)


def fitting(dice, sheet, other_holds, wants):
    """A sheet on the same tree and clock with these counts."""
    rows = [dice.row(sheet.p, sum(other_holds)) for _ in range(sum(wants))]
    return Sheet(sheet.p, sheet.tree, other_holds, dealt(wants, rows))


def others_of(sheet):
    """Sheets that differ from one in the clock, in the tree, in one count of what is held, of what is wanted."""
    row = (0,) * sheet.numbers
    other_tree = star_tree(3, 2)
    more_held = Sheet(sheet.p, sheet.tree, (2, 1, 1), tuple(((0,) * 4,) * len(rows) for rows in sheet.wants))
    swapped = Sheet(sheet.p, sheet.tree, (2, 0, 1), sheet.wants)
    more_wanted = Sheet(sheet.p, sheet.tree, sheet.holds, ((row, row),) + sheet.wants[1:])
    less_wanted = Sheet(sheet.p, sheet.tree, sheet.holds, sheet.wants[:2] + ((),))
    moved = Sheet(sheet.p, sheet.tree, sheet.holds, (((row, row)), (), (row,)))
    return {"clock": Sheet(7, sheet.tree, sheet.holds, sheet.wants),
            "tree": Sheet(sheet.p, other_tree, sheet.holds, sheet.wants),
            "holds": more_held, "held elsewhere": swapped, "wants": more_wanted, "less": less_wanted, "moved": moved}


class Mirrored(unittest.TestCase):
    def test_values_exchanged(self):
        for sheet in some_sheets(511, 80, 6, 3, 3, CLOCKS) + [great_sheet(), great_sheet(3, star_tree(24, 7))]:
            found = mirrored(sheet)
            self.assertIsInstance(found, Sheet)
            self.assertEqual((found.p, found.tree), (sheet.p, sheet.tree))
            self.assertEqual((found.holds, counts_of(found)), (counts_of(sheet), sheet.holds))
            rows = flat(sheet.wants)
            for i, row in enumerate(flat(found.wants)):
                self.assertEqual(row, tuple(rows[j][i] for j in range(len(rows))))

    def test_twice_it_is_the_sheet(self):
        for sheet in some_sheets(512, 60, 6, 3, 3) + undoable_sheets(513, 10):
            self.assertEqual(mirrored(mirrored(sheet)), sheet)

    def test_tolls_of_ways_turned_about(self):
        for sheet in some_sheets(514, 60, 6, 3, 3) + [great_sheet(2)]:
            least = tolls(sheet)
            self.assertEqual(tolls(mirrored(sheet)), {(there, here): least[here, there] for here, there in least})

    def test_known_ones(self):
        self.assertEqual(mirrored(EXAMPLE).wants, (((1, 1, 0),), ((0, 1, 1),), ((0, 0, 1),)))
        sheet = Sheet(7, PAIR, (2, 0), ((), ((1, 2), (3, 4), (5, 6))))
        self.assertEqual(mirrored(sheet), Sheet(7, PAIR, (0, 3), (((1, 3, 5), (2, 4, 6)), ())))
        no_wants = Sheet(7, PAIR, (2, 1), ((), ()))
        self.assertEqual(mirrored(no_wants), Sheet(7, PAIR, (0, 0), (((), ()), ((),))))

    def test_the_way_back_and_the_mirror(self):
        for sheet in undoable_sheets(515, 20):
            self.assertEqual(undone(mirrored(sheet)), mirrored(undone(sheet)))


class Staying(unittest.TestCase):
    def test_each_post_wants_what_it_holds(self):
        dice = Dice(516)
        for number in range(40):
            tree = [row_tree, star_tree][number % 2](1 + dice.below(24)) if number % 3 else some_tree(dice, 6)
            holds = some_counts(dice, tree.posts, dice.below(min(60, 8 * tree.posts) + 1))
            sheet = staying(CLOCKS[number % 4], tree, holds)
            self.assertIsInstance(sheet, Sheet)
            self.assertEqual((sheet.p, sheet.tree, sheet.holds), (CLOCKS[number % 4], tree, holds))
            self.assertEqual(sheet.wants, dealt(holds, units(sum(holds))))
            self.assertEqual(set(tolls(sheet).values()), {0} if tree.ties else set())

    def test_known_ones(self):
        self.assertEqual(staying(5, PAIR, (2, 1)).wants, (((1, 0, 0), (0, 1, 0)), ((0, 0, 1),)))
        self.assertEqual(staying(2, ONE, (0,)), Sheet(2, ONE, (0,), ((),)))
        self.assertEqual(staying(2, ONE, (8,)).wants, (tuple(units(8)),))

    def test_no_clock_then_no_counts(self):
        for p in all_odd() + [0, 1, 4, 1000003, "5", (5,), [5]]:
            self.assertEqual(error_of(staying, p, PAIR, (2, 1)), ("NoClock", {}))
            self.assertEqual(error_of(staying, p, PAIR, None), ("NoClock", {}))
        for holds in NO_COUNTS:
            self.assertEqual(error_of(staying, 5, PAIR, holds), ("NoCounts", {}), holds)

    def test_sixty_and_sixty_one(self):
        tree = row_tree(8)
        self.assertEqual(staying(5, tree, (8,) * 7 + (4,)).numbers, 60)
        self.assertEqual(error_of(staying, 5, tree, (8,) * 7 + (5,)), ("NoCounts", {}))


class Behind(unittest.TestCase):
    def test_what_is_wanted_of_what_is_wanted(self):
        dice = Dice(517)
        for sheet in some_sheets(518, 60, 6, 3, 3) + [great_sheet()]:
            wants = tuple(dice.below(3) for _ in range(sheet.tree.posts))
            other = fitting(dice, sheet, counts_of(sheet), wants)
            found = behind(sheet, other)
            self.assertIsInstance(found, Sheet)
            self.assertEqual((found.p, found.tree, found.holds), (sheet.p, sheet.tree, sheet.holds))
            self.assertEqual(counts_of(found), wants)
            for given in [dice.row(sheet.p, sheet.numbers) for _ in range(3)] + units(sheet.numbers)[:6]:
                between = tuple(flat(all_wanted(sheet, given)))
                self.assertEqual(all_wanted(found, given), all_wanted(other, between))

    def test_undone_behind_a_sheet_is_staying(self):
        for sheet in undoable_sheets(519, 30):
            stays = staying(sheet.p, sheet.tree, sheet.holds)
            self.assertEqual(behind(sheet, undone(sheet)), stays)
            self.assertEqual(behind(undone(sheet), sheet), staying(sheet.p, sheet.tree, counts_of(sheet)))
            self.assertEqual(behind(stays, sheet), sheet)

    def test_one_sheet_twice(self):
        self.assertEqual(behind(EXAMPLE, EXAMPLE).wants, (((1, 0, 0),), ((2, 1, 0),), ((1, 2, 1),)))

    def test_order_means_something(self):
        first = Sheet(5, PAIR, (2, 0), ((), ((1, 2),)))
        second = Sheet(5, PAIR, (0, 1), (((3,), (4,)), ()))
        self.assertEqual(behind(first, second), Sheet(5, PAIR, (2, 0), (((3, 1), (4, 3)), ())))
        self.assertEqual(behind(second, first), Sheet(5, PAIR, (0, 1), ((), ((1,),))))

    def test_not_after(self):
        for name, other in others_of(EXAMPLE).items():
            bad = name in ("clock", "tree", "holds", "held elsewhere")
            self.assertEqual(error_of(behind, EXAMPLE, other), ("NotAfter", {}) if bad else None, name)
            bad = name not in ("holds", "held elsewhere")
            self.assertEqual(error_of(behind, other, EXAMPLE), ("NotAfter", {}) if bad else None, name)

    def test_no_sheet_at_all(self):
        for thing in all_odd():
            if not isinstance(thing, Sheet):
                self.assertEqual(error_of(behind, EXAMPLE, thing), ("NotAfter", {}))
                self.assertEqual(error_of(summed, EXAMPLE, thing), ("NotAlike", {}))


class Summed(unittest.TestCase):
    def test_wants_added_one_by_one(self):
        dice = Dice(520)
        for sheet in some_sheets(521, 60, 6, 3, 3) + [great_sheet(), great_sheet(2, star_tree(24))]:
            other = fitting(dice, sheet, sheet.holds, counts_of(sheet))
            found = summed(sheet, other)
            self.assertIsInstance(found, Sheet)
            self.assertEqual((found.p, found.tree, found.holds), (sheet.p, sheet.tree, sheet.holds))
            self.assertEqual(found.wants, tuple(tuple(add(sheet.p, one, more) for one, more in zip(rows, others))
                                                for rows, others in zip(sheet.wants, other.wants)))
            self.assertEqual(found, summed(other, sheet))
            first, second, both = tolls(sheet), tolls(other), tolls(found)
            self.assertTrue(all(both[way] <= first[way] + second[way] for way in ways(sheet.tree)))

    def test_known_ones(self):
        self.assertEqual(summed(EXAMPLE, staying(5, ROW_OF_THREE, (1, 1, 1))).wants,
                         (((2, 0, 0),), ((1, 2, 0),), ((0, 1, 2),)))
        minus = Sheet(5, ROW_OF_THREE, (1, 1, 1), (((4, 0, 0),), ((4, 4, 0),), ((0, 4, 4),)))
        nothing = summed(EXAMPLE, minus)
        self.assertEqual(nothing.wants, (((0, 0, 0),),) * 3)
        self.assertIs(is_right(nothing, least_plan(nothing)), True)

    def test_not_alike(self):
        for name, other in others_of(EXAMPLE).items():
            for pair in ((EXAMPLE, other), (other, EXAMPLE)):
                self.assertEqual(error_of(summed, *pair), ("NotAlike", {}), name)

    def test_sheets_stay_as_they_were(self):
        sheet = copy.deepcopy(EXAMPLE)
        for call in (summed, behind):
            call(sheet, sheet)
        mirrored(sheet)
        self.assertEqual(sheet, EXAMPLE)


if __name__ == "__main__":
    unittest.main()
