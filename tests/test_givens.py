"""Which tolls sheets can have, and sheets that have them."""

import copy
import unittest
from itertools import product

from sametolls.givens import barring, is_barring, made_sheet, made_undoable
from sametolls.sheets import Sheet
from sametolls.tolls import tolls
from sametolls.trees import Tree, ways
from sametolls.undoing import can_be_undone
from tests.support import (EXAMPLE, ROW_OF_THREE, Dice, all_odd, all_rows, dealt, error_of, great_sheet, row_tree,
                           some_counts, some_sheets, some_tree, star_tree, undoable_sheets)

PAIR = Tree(((0, 1),))
ONE = Tree(())
CLOCKS = (2, 3, 101, 999983)
HOLDS, WANTS = (2, 0, 1), (1, 1, 2)
TABLE = {(0, 1): 2, (1, 0): 1, (1, 2): 1, (2, 1): 1}
BARRED = {(0, 1): 1, (1, 0): 0, (1, 2): 2, (2, 1): 0}
NO_CLOCKS = all_odd() + [0, 1, 4, 1000003, "5", (5,), [5]]
NO_COUNTS = all_odd() + [(), (1,), (1, 1), (1, 1, 1, 1), [1, 1, 1], (2, 1, -1), (-1, 2, 1), (9, 0, 0), (0, 0, 9),
                         (2, True, 1), (False, 1, 1), (2, None, 1), (2, "1", 1), (2, (1,), 1), ("2", 1, 1), 3, "211",
                         {0: 2, 1: 1, 2: 1}, (2, [1], 1), (10 ** 59, 1, 1)]
NO_VALUES = all_odd() + [61, -1, 10 ** 59, "1", (1,), [1], {}]


def no_tables():
    """Things that are no table for the row of three."""
    found = all_odd() + [{}, [], (), list(TABLE.items()), tuple(TABLE.items()), list(TABLE), 4, (TABLE,), [TABLE]]
    for way in TABLE:
        less = {other: TABLE[other] for other in TABLE if other != way}
        found.append(less)
        for other in ((0, 2), (2, 0), (0, 0), (0, 3), (-1, 0), (0,), (0, 1, 2), "01", None, 0, ((0, 1),), b"01", Tree):
            found += [{**less, other: 1}, {**TABLE, other: 1}]
        found += [{**TABLE, way: value} for value in NO_VALUES]
    return found


NO_TABLES = no_tables()


def tables_of(tree, end):
    """All tables with numbers below an end."""
    paths = ways(tree)
    return [dict(zip(paths, values)) for values in product(range(end), repeat=len(paths))]


def plain_bars(tree, holds, wants, table):
    """The ascending list of all pairs that bar a table."""
    found = []
    for post in range(tree.posts):
        for way in sorted(table):
            if way[0] == post:
                heard = sum(table[other] for other in table if other[1] == post and other[0] != way[1])
                if table[way] > holds[post] + heard:
                    found.append((post, way))
            elif way[1] == post:
                told = sum(table[other] for other in table if other[0] == post and other[1] != way[0])
                if table[way] > wants[post] + told:
                    found.append((post, way))
    return found


def all_sheets(p, tree, holds, wants):
    """All sheets of these counts."""
    wide = sum(holds)
    for rows in product(all_rows(p, wide), repeat=sum(wants)):
        yield Sheet(p, tree, holds, dealt(wants, rows))


def some_trees(dice, count, most=6):
    """Rows, stars and others."""
    found = [ONE, PAIR, ROW_OF_THREE]
    for number in range(count):
        posts = 1 + dice.below(most)
        found.append([row_tree(posts), star_tree(posts, dice.below(posts)), some_tree(dice, posts)][number % 3])
    return found


def counts_of(sheet):
    """How many sums each post wants."""
    return tuple(len(rows) for rows in sheet.wants)


class Barring(unittest.TestCase):
    def check(self, tree, holds, wants, table):
        found = plain_bars(tree, holds, wants, table)
        self.assertEqual(barring(tree, holds, wants, table), found[0] if found else None)
        for pair in product(range(tree.posts), ways(tree)):
            self.assertIs(is_barring(tree, holds, wants, table, pair), pair in found)
        return found

    def test_all_tables_of_two_posts(self):
        for holds in product(range(3), repeat=2):
            for wants in product(range(3), repeat=2):
                for table in tables_of(PAIR, 4):
                    self.check(PAIR, holds, wants, table)

    def test_all_small_tables_of_three_posts(self):
        for holds, wants in (((1, 0, 0), (0, 0, 1)), ((0, 0, 0), (0, 0, 0)), ((1, 1, 1), (1, 1, 1)),
                             ((2, 0, 1), (0, 1, 1)), ((0, 2, 0), (1, 0, 1))):
            for tree in (ROW_OF_THREE, star_tree(3), star_tree(3, 2)):
                for table in tables_of(tree, 3):
                    self.check(tree, holds, wants, table)

    def test_other_trees(self):
        dice = Dice(571)
        told = {"from": 0, "to": 0, "none": 0}
        for tree in some_trees(dice, 150, 8):
            holds = tuple(dice.below(4) for _ in range(tree.posts))
            wants = tuple(dice.below(4) for _ in range(tree.posts))
            found = self.check(tree, holds, wants, {way: dice.below(2 + dice.below(3)) for way in ways(tree)})
            told["none" if not found else "from" if found[0][0] == found[0][1][0] else "to"] += 1
        self.assertGreater(min(told.values()), 15)

    def test_known_ones(self):
        self.assertEqual(barring(ROW_OF_THREE, (1, 0, 0), (0, 0, 1), BARRED), (1, (1, 2)))
        self.assertIsNone(barring(ROW_OF_THREE, HOLDS, WANTS, TABLE))
        self.assertIsNone(barring(ONE, (3,), (0,), {}))
        nothing = dict.fromkeys(TABLE, 0)
        self.assertIsNone(barring(ROW_OF_THREE, (0, 0, 0), (0, 0, 0), nothing))
        # The posts at both ends of a way may bar it, and the less one is told.
        self.assertEqual(barring(PAIR, (0, 0), (0, 0), {(0, 1): 1, (1, 0): 0}), (0, (0, 1)))
        self.assertEqual(barring(PAIR, (1, 0), (0, 0), {(0, 1): 1, (1, 0): 0}), (1, (0, 1)))
        self.assertEqual(barring(PAIR, (0, 1), (0, 0), {(0, 1): 0, (1, 0): 1}), (0, (1, 0)))
        self.assertEqual(barring(PAIR, (0, 0), (1, 0), {(0, 1): 0, (1, 0): 1}), (1, (1, 0)))
        # What comes over a way is no help for what goes back over it.
        self.assertEqual(barring(PAIR, (0, 1), (1, 1), {(0, 1): 1, (1, 0): 1}), (0, (0, 1)))

    def test_what_tolls_of_sheets_are_is_never_barred(self):
        for sheet in some_sheets(572, 60, 7, 3, 3) + [great_sheet(), EXAMPLE]:
            self.assertIsNone(barring(sheet.tree, sheet.holds, counts_of(sheet), tolls(sheet)))

    def test_sixty_is_a_number_of_tables(self):
        table = {(0, 1): 60, (1, 0): 0}
        self.assertEqual(barring(PAIR, (8, 0), (0, 8), table), (0, (0, 1)))
        self.assertEqual(error_of(barring, PAIR, (8, 0), (0, 8), {(0, 1): 61, (1, 0): 0}), ("NoTable", {}))

    def test_things_that_do_not_bar(self):
        args = ROW_OF_THREE, (1, 0, 0), (0, 0, 1), BARRED
        self.assertIs(is_barring(*args, (1, (1, 2))), True)
        self.assertIs(is_barring(*args, (2, (1, 2))), True)
        for thing in all_odd() + [(1,), (), [1, (1, 2)], (1, [1, 2]), ((1, 2), 1), (1, (1, 2), 0), (True, (1, 2)),
                                  (1, (True, 2)), (0, (1, 2)), (3, (1, 2)), (-1, (1, 2)), (1, (2, 1)), (1, (1, 3)),
                                  (1, (0, 2)), (1, 1), ("1", (1, 2)), (1, "12"), (None, None), {1: (1, 2)}, (2, (2, 2)),
                                  (10 ** 59, (1, 2)), (1, (1,)), (1, None), 1, (1, 2), (2, (0, 2))]:
            self.assertIs(is_barring(*args, thing), False, thing)
        self.assertIs(is_barring(ONE, (1,), (1,), {}, (0, (0, 0))), False)


class Errors(unittest.TestCase):
    def test_no_counts_for_holds_then_for_wants_then_no_table(self):
        for call, more in ((barring, ()), (is_barring, (None,))):
            for counts in NO_COUNTS:
                self.assertEqual(error_of(call, ROW_OF_THREE, counts, None, None, *more), ("NoCounts", {}))
                self.assertEqual(error_of(call, ROW_OF_THREE, counts, WANTS, TABLE, *more), ("NoCounts", {}))
                self.assertEqual(error_of(call, ROW_OF_THREE, HOLDS, counts, None, *more), ("NoCounts", {}))
                self.assertEqual(error_of(call, ROW_OF_THREE, HOLDS, counts, TABLE, *more), ("NoCounts", {}))
            for table in NO_TABLES:
                self.assertEqual(error_of(call, ROW_OF_THREE, HOLDS, WANTS, table, *more), ("NoTable", {}))

    def test_made_sheet(self):
        for p in NO_CLOCKS:
            self.assertEqual(error_of(made_sheet, p, ROW_OF_THREE, None, None, None), ("NoClock", {}))
            self.assertEqual(error_of(made_sheet, p, ROW_OF_THREE, HOLDS, WANTS, TABLE), ("NoClock", {}))
        for counts in NO_COUNTS:
            self.assertEqual(error_of(made_sheet, 2, ROW_OF_THREE, counts, WANTS, None), ("NoCounts", {}))
            self.assertEqual(error_of(made_sheet, 2, ROW_OF_THREE, HOLDS, counts, TABLE), ("NoCounts", {}))
        for table in NO_TABLES:
            self.assertEqual(error_of(made_sheet, 2, ROW_OF_THREE, HOLDS, WANTS, table), ("NoTable", {}))
        self.assertEqual(error_of(made_sheet, 2, ROW_OF_THREE, (1, 0, 0), (0, 0, 1), BARRED),
                         ("Barred", {"post": 1, "way": (1, 2)}))

    def test_made_undoable(self):
        for p in NO_CLOCKS:
            self.assertEqual(error_of(made_undoable, p, ROW_OF_THREE, None, None), ("NoClock", {}))
            self.assertEqual(error_of(made_undoable, p, ROW_OF_THREE, HOLDS, TABLE), ("NoClock", {}))
        for counts in NO_COUNTS:
            self.assertEqual(error_of(made_undoable, 2, ROW_OF_THREE, counts, None), ("NoCounts", {}))
            self.assertEqual(error_of(made_undoable, 101, ROW_OF_THREE, counts, TABLE), ("NoCounts", {}))
        for table in NO_TABLES:
            self.assertEqual(error_of(made_undoable, 2, ROW_OF_THREE, HOLDS, table), ("NoClock", {}))
            self.assertEqual(error_of(made_undoable, 3, ROW_OF_THREE, HOLDS, table), ("NoClock", {}))
            self.assertEqual(error_of(made_undoable, 5, ROW_OF_THREE, HOLDS, table), ("NoTable", {}))
        self.assertEqual(error_of(made_undoable, 5, ROW_OF_THREE, (1, 0, 1), BARRED),
                         ("Barred", {"post": 1, "way": (1, 2)}))
        self.assertEqual(error_of(made_undoable, 2, ROW_OF_THREE, (1, 0, 1), BARRED), ("NoClock", {}))

    def test_what_is_passed_stays(self):
        table = copy.deepcopy(TABLE)
        made_sheet(5, ROW_OF_THREE, HOLDS, WANTS, table)
        barring(ROW_OF_THREE, HOLDS, WANTS, table)
        made_undoable(5, ROW_OF_THREE, (1, 1, 1), dict.fromkeys(table, 1))
        self.assertEqual(table, TABLE)


class Made(unittest.TestCase):
    def made(self, p, tree, holds, wants, table):
        sheet = made_sheet(p, tree, holds, wants, table)
        self.assertIsInstance(sheet, Sheet)
        self.assertEqual((sheet.p, sheet.tree, sheet.holds, counts_of(sheet)), (p, tree, holds, wants))
        self.assertEqual(tolls(sheet), table)
        self.assertEqual(made_sheet(p, tree, holds, wants, table), sheet)

    def check(self, p, tree, holds, wants, table):
        """Make a sheet, or be told by what it is barred."""
        found = plain_bars(tree, holds, wants, table)
        if found:
            self.assertEqual(error_of(made_sheet, p, tree, holds, wants, table),
                             ("Barred", {"post": found[0][0], "way": found[0][1]}))
        else:
            self.made(p, tree, holds, wants, table)
        return not found

    def test_just_the_tolls_that_sheets_have(self):
        cases = ((2, PAIR, (2, 1), (1, 2), 3), (3, PAIR, (1, 1), (1, 1), 3), (2, PAIR, (3, 0), (0, 3), 4),
                 (2, ROW_OF_THREE, (1, 1, 0), (1, 0, 2), 3), (2, ROW_OF_THREE, (1, 1, 1), (1, 1, 1), 3),
                 (2, star_tree(3), (2, 0, 1), (0, 1, 1), 3), (2, star_tree(4), (1, 1, 0, 1), (0, 1, 1, 1), 2),
                 (3, star_tree(4, 1), (1, 0, 1, 0), (1, 0, 1, 1), 2))
        for p, tree, holds, wants, end in cases:
            there_are = {tuple(sorted(tolls(sheet).items())) for sheet in all_sheets(p, tree, holds, wants)}
            for table in tables_of(tree, end):
                self.assertEqual(self.check(p, tree, holds, wants, table), tuple(sorted(table.items())) in there_are)

    def test_all_tables_of_a_star(self):
        cases = ((star_tree(4), (1, 1, 0, 1), (0, 1, 1, 1)), (star_tree(4, 3), (1, 2, 1, 0), (1, 1, 2, 0)),
                 (star_tree(4), (0, 2, 2, 1), (0, 1, 2, 2)), (star_tree(4), (2, 0, 1, 0), (0, 2, 2, 1)),
                 (star_tree(4, 1), (0, 0, 2, 2), (1, 2, 0, 1)))
        for tree, holds, wants in cases:
            made = sum(self.check(2, tree, holds, wants, table) for table in tables_of(tree, 3))
            self.assertGreater(made, 20)

    def test_tables_on_all_kinds_of_trees_and_clocks(self):
        dice = Dice(573)
        made = {p: 0 for p in CLOCKS}
        for tree in some_trees(dice, 400, 7):
            p = CLOCKS[dice.below(4)]
            holds = tuple(dice.below(4) for _ in range(tree.posts))
            wants = tuple(dice.below(4) for _ in range(tree.posts))
            most = 1 + dice.below(4)
            table = {way: dice.below(most) for way in ways(tree)}
            made[p] += self.check(p, tree, holds, wants, table)
        self.assertGreater(min(made.values()), 25)

    def test_tolls_of_sheets(self):
        for sheet in some_sheets(574, 60, 8, 3, 3):
            for p in CLOCKS:
                self.made(p, sheet.tree, sheet.holds, counts_of(sheet), tolls(sheet))

    def test_great_ones(self):
        dice = Dice(575)
        for tree in (row_tree(24), star_tree(24, 4), some_tree(dice, 24), row_tree(8), star_tree(8)):
            holds, wants = some_counts(dice, tree.posts, 60), some_counts(dice, tree.posts, 60)
            sheet = Sheet(7, tree, holds, dealt(wants, [dice.row(7, 60) for _ in range(60)]))
            full = tolls(sheet)
            for p in (2, 999983):
                self.made(p, tree, holds, wants, full)
                self.made(p, tree, holds, wants, dict.fromkeys(full, 0))

    def test_no_ways(self):
        for p in CLOCKS:
            for holds, wants in (((0,), (0,)), ((8,), (0,)), ((0,), (8,)), ((8,), (8,))):
                self.made(p, ONE, holds, wants, {})

    def test_the_order_of_keys_means_nothing(self):
        turned = {way: TABLE[way] for way in sorted(TABLE, reverse=True)}
        self.assertEqual(made_sheet(2, ROW_OF_THREE, HOLDS, WANTS, turned),
                         made_sheet(2, ROW_OF_THREE, HOLDS, WANTS, TABLE))


class MadeUndoable(unittest.TestCase):
    def made(self, p, tree, holds, table):
        sheet = made_undoable(p, tree, holds, table)
        self.assertIsInstance(sheet, Sheet)
        self.assertEqual((sheet.p, sheet.tree, sheet.holds, counts_of(sheet)), (p, tree, holds, holds))
        self.assertEqual(tolls(sheet), table)
        self.assertIs(can_be_undone(sheet), True)
        self.assertEqual(made_undoable(p, tree, holds, table), sheet)

    def check(self, p, tree, holds, table):
        found = plain_bars(tree, holds, holds, table)
        if sum(holds) >= p:
            self.assertEqual(error_of(made_undoable, p, tree, holds, table), ("NoClock", {}))
        elif found:
            self.assertEqual(error_of(made_undoable, p, tree, holds, table),
                             ("Barred", {"post": found[0][0], "way": found[0][1]}))
        else:
            self.made(p, tree, holds, table)
            return True
        return False

    def test_all_small_tables(self):
        made = 0
        for p, tree, holds in ((2, PAIR, (1, 0)), (3, PAIR, (1, 1)), (5, PAIR, (2, 2)), (5, ROW_OF_THREE, (1, 2, 1)),
                               (5, ROW_OF_THREE, (1, 1, 1)), (7, star_tree(4), (0, 2, 2, 1))):
            made += sum(self.check(p, tree, holds, table) for table in tables_of(tree, 3))
        self.assertGreater(made, 50)

    def test_tables_on_all_kinds_of_trees_and_clocks(self):
        dice = Dice(576)
        made = 0
        for tree in some_trees(dice, 250, 6):
            holds = tuple(dice.below(4) for _ in range(tree.posts))
            most = 1 + dice.below(3)
            made += self.check((2, 5, 7, 11, 101, 999983)[dice.below(6)], tree, holds,
                               {way: dice.below(most) for way in ways(tree)})
        self.assertGreater(made, 50)

    def test_a_clock_of_just_more_hours_than_numbers(self):
        for p, other, numbers in ((2, 2, 1), (3, 3, 2), (5, 3, 4), (7, 5, 6), (11, 7, 10)):
            tree = row_tree(3)
            holds = some_counts(Dice(numbers), 3, numbers)
            table = dict.fromkeys(ways(tree), 0)
            self.made(p, tree, holds, table)
            more = holds[:2] + (holds[2] + p - numbers,)
            self.assertEqual(error_of(made_undoable, p, tree, more, table), ("NoClock", {}))
            self.assertEqual(error_of(made_undoable, p, tree, more, None), ("NoClock", {}))

    def test_tolls_of_sheets_that_can_be_undone(self):
        for sheet in undoable_sheets(577, 60, 6, 8, (2, 3, 101)):
            if counts_of(sheet) == sheet.holds:
                for p in (11, 101, 999983):
                    self.made(p, sheet.tree, sheet.holds, tolls(sheet))

    def test_great_ones(self):
        dice = Dice(578)
        for tree in (row_tree(24), star_tree(24, 4), some_tree(dice, 24)):
            holds = some_counts(dice, 24, 60)
            sheet = Sheet(101, tree, holds, dealt(holds, [dice.row(101, 60) for _ in range(60)]))
            for p in (61, 999983):
                self.made(p, tree, holds, tolls(sheet))
            self.assertEqual(error_of(made_undoable, 59, tree, holds, tolls(sheet)), ("NoClock", {}))

    def test_no_numbers(self):
        self.made(2, ROW_OF_THREE, (0, 0, 0), dict.fromkeys(TABLE, 0))
        self.made(2, ONE, (1,), {})
        self.assertEqual(error_of(made_undoable, 2, ONE, (2,), {}), ("NoClock", {}))


if __name__ == "__main__":
    unittest.main()
