"""What listeners learn, what can be hidden from them, and givens that sound alike."""

import copy
import unittest
from itertools import combinations

from sametolls.clocks import ladder
from sametolls.listeners import alike, can_hide, learnt, surely_learnt, twin
from sametolls.plans import is_right, is_shape, least_plan
from sametolls.sheets import Sheet
from sametolls.trees import Tree, ways
from tests.support import (EXAMPLE, ROW_OF_THREE, Dice, all_odd, all_rows, dot, error_of, full_plan,
                           great_sheet, heard_by, mix, plan_saying, room, some_sheets, spread_block, star_tree, units)

SHEETS = some_sheets(71, 45)
SMALL = some_sheets(72, 30, 4, 1, 2, (2, 3))
RIGHT = least_plan(EXAMPLE)
FULL = full_plan(EXAMPLE)
WRONG = {**RIGHT[0], (1, 2): ((3, 1),), (2, 1): ((0,),)}, (((4,),), ((0, 2, 1),), ((1, 1),))
ALL_WAYS = ((0, 1), (1, 0), (1, 2), (2, 1))
NO_WAYS = all_odd() + [[], [(0, 1)], {}, {(0, 1): 0}, ((0, 1), (0, 1)), ((1, 0), (0, 1)), ((0, 2),), ((0, 1), (0, 3)),
                       ((0, 1), None), (None,), (0, 1), ((True, 0),), ((0, True),), ((False, 1),), ([0, 1],),
                       ((0, 1), [1, 0]), ((0, 1, 2),), ((0,),), ((),), ("01",), (("0", "1"),), ((0, [1]),), 0,
                       ((-1, 0),), ((0, 1), (1, 2), (1, 0)), (((0, 1),),), ((1, 0), (1, 1)), ((0, 10 ** 59),)]
NO_GIVENS = all_odd() + [(), (1,), (1, 2, 3, 4), [1, 2, 3], (1, 2, 5), (1, -1, 2), (1, True, 2), (1, None, 2), "123",
                         {0: 1, 1: 2, 2: 3}, 5, (1, (2,), 3), (1, 2, 10 ** 59)]


def some_ways(dice, sheet):
    """Lots of ways: none, all, each alone, and others."""
    every = ways(sheet.tree)
    found = [(), tuple(every)] + [(way,) for way in every[:3]]
    return found + [tuple(way for way in every if dice.below(2)) for _ in range(3)]


def rows_heard(sheet, plan, paths):
    """The rows whose sums are said over ways, by asking for each number alone."""
    found = []
    for way in paths:
        columns = [heard_by(sheet, plan, unit, way) for unit in units(sheet.numbers)]
        found += [tuple(column[row] for column in columns) for row in range(len(plan[0][way]))]
    return found


def wrong_plan(sheet):
    """A plan whose rows are all noughts but the first values."""
    says, answers = full_plan(sheet)
    return {way: tuple((1,) + (0,) * (len(row) - 1) if row else row for row in rows)
            for way, rows in says.items()}, answers


def plans_for(sheet):
    """Right plans, such that say more, and such that may be wrong."""
    told = {way: spread_block(sheet, way) for way in ways(sheet.tree)}
    return [least_plan(sheet), full_plan(sheet), plan_saying(sheet, told), wrong_plan(sheet)]


class Learnt(unittest.TestCase):
    def test_what_is_heard_spans_it(self):
        dice = Dice(73)
        for sheet in SHEETS:
            for plan in plans_for(sheet):
                for paths in some_ways(dice, sheet):
                    found = learnt(sheet, plan, paths)
                    self.assertIsInstance(found, tuple)
                    self.assertEqual(found, ladder(sheet.p, sheet.numbers, rows_heard(sheet, plan, paths)))

    def test_just_the_sums_that_all_givens_that_sound_alike_share(self):
        for sheet in SMALL:
            for plan in plans_for(sheet):
                for paths in some_ways(Dice(5), sheet):
                    self.check_sums(sheet, plan, paths, room(sheet.p, sheet.numbers, learnt(sheet, plan, paths)))

    def check_sums(self, sheet, plan, paths, known):
        sounds = {}
        for given in all_rows(sheet.p, sheet.numbers):
            sounds.setdefault(tuple(tuple(heard_by(sheet, plan, given, way)) for way in paths), []).append(given)
        for row in all_rows(sheet.p, sheet.numbers):
            sure = all(len({dot(sheet.p, row, given) for given in alikes}) == 1 for alikes in sounds.values())
            self.assertEqual(row in known, sure)

    def test_more_rows_than_two_hundred(self):
        sheet = great_sheet(7, star_tree(24))
        plan = full_plan(sheet)
        self.assertGreater(sum(len(rows) for rows in plan[0].values()), 200)
        self.assertEqual(learnt(sheet, plan, tuple(ways(sheet.tree))), tuple(units(60)))
        self.assertEqual(learnt(sheet, plan, ((0, 1),)), tuple(units(60)[:3] + units(60)[5:]))

    def test_known_ones(self):
        self.assertEqual(learnt(EXAMPLE, RIGHT, ()), ())
        self.assertEqual(learnt(EXAMPLE, RIGHT, ALL_WAYS), ((1, 0, 0), (0, 1, 0)))
        self.assertEqual(learnt(EXAMPLE, FULL, ALL_WAYS), tuple(units(3)))
        self.assertEqual(learnt(EXAMPLE, FULL, ((1, 0),)), ((0, 1, 0), (0, 0, 1)))
        self.assertEqual(learnt(EXAMPLE, WRONG, ((1, 2),)), ((1, 3, 0),))
        self.assertEqual(learnt(EXAMPLE, WRONG, ((2, 1),)), ())


class Sure(unittest.TestCase):
    def test_spanned_by_the_blocks(self):
        dice = Dice(74)
        for sheet in SHEETS + [great_sheet(2)]:
            for paths in some_ways(dice, sheet):
                found = surely_learnt(sheet, paths)
                self.assertIsInstance(found, tuple)
                rows = ladder(sheet.p, sheet.numbers, [])
                for way in paths:
                    rows = ladder(sheet.p, sheet.numbers, list(rows) + spread_block(sheet, way))
                self.assertEqual(found, rows)
                self.assertEqual(found, learnt(sheet, least_plan(sheet), paths))

    def test_known_whatever_right_plan_is_used(self):
        for sheet in SMALL:
            right = [plan for plan in plans_for(sheet) if is_right(sheet, plan)]
            self.assertGreaterEqual(len(right), 3)
            for paths in some_ways(Dice(6), sheet):
                known = [room(sheet.p, sheet.numbers, learnt(sheet, plan, paths)) for plan in right]
                self.assertEqual(room(sheet.p, sheet.numbers, surely_learnt(sheet, paths)), set.intersection(*known))

    def test_known_ones(self):
        self.assertEqual(surely_learnt(EXAMPLE, ((0, 1), (1, 2))), ((1, 0, 0), (0, 1, 0)))
        self.assertEqual(surely_learnt(EXAMPLE, ()), ())
        self.assertEqual(surely_learnt(EXAMPLE, ((1, 0), (2, 1))), ())
        self.assertEqual(surely_learnt(EXAMPLE, ALL_WAYS), ((1, 0, 0), (0, 1, 0)))
        sheet = Sheet(5, Tree(((0, 1),)), (2, 1), ((), ((1, 2, 3), (2, 4, 0))))
        self.assertEqual(surely_learnt(sheet, ((0, 1),)), ((1, 2, 0),))

    def test_can_hide(self):
        for sheet in SMALL:
            for paths in some_ways(Dice(7), sheet):
                known = room(sheet.p, sheet.numbers, surely_learnt(sheet, paths))
                for row in all_rows(sheet.p, sheet.numbers):
                    self.assertIs(can_hide(sheet, paths, row), row not in known)
        self.assertIs(can_hide(EXAMPLE, ALL_WAYS, (3, 4, 0)), False)
        self.assertIs(can_hide(EXAMPLE, ALL_WAYS, (3, 4, 1)), True)
        self.assertIs(can_hide(EXAMPLE, ((0, 1),), (0, 1, 0)), True)
        self.assertIs(can_hide(EXAMPLE, (), (0, 0, 0)), False)


class Alike(unittest.TestCase):
    def test_all_pairs_of_givens(self):
        for sheet in SMALL[:15]:
            for plan in plans_for(sheet):
                for paths in some_ways(Dice(8), sheet)[1:5]:
                    sounds = {given: [heard_by(sheet, plan, given, way) for way in paths]
                              for given in all_rows(sheet.p, sheet.numbers)}
                    for one, other in list(combinations(sounds, 2))[:60] + [(given, given) for given in sounds][:3]:
                        self.assertIs(alike(sheet, plan, paths, one, other), sounds[one] == sounds[other])

    def test_known_ones(self):
        self.assertIs(alike(EXAMPLE, RIGHT, ((0, 1),), (1, 2, 3), (1, 4, 0)), True)
        self.assertIs(alike(EXAMPLE, RIGHT, ((0, 1),), (1, 2, 3), (2, 2, 3)), False)
        self.assertIs(alike(EXAMPLE, RIGHT, ((0, 1), (1, 2)), (1, 2, 3), (1, 4, 3)), False)
        self.assertIs(alike(EXAMPLE, RIGHT, (), (1, 2, 3), (2, 4, 0)), True)
        self.assertIs(alike(EXAMPLE, FULL, ((1, 0),), (1, 2, 3), (4, 2, 3)), True)
        self.assertIs(alike(EXAMPLE, FULL, ALL_WAYS, (1, 2, 3), (1, 2, 3)), True)
        self.assertIs(alike(EXAMPLE, WRONG, ((1, 2),), (1, 2, 3), (4, 1, 3)), True)


class Twins(unittest.TestCase):
    def check(self, sheet, plan, paths, given, row):
        other = twin(sheet, plan, paths, given, row)
        known = ladder(sheet.p, sheet.numbers, rows_heard(sheet, plan, paths))
        if ladder(sheet.p, sheet.numbers, list(known) + [row]) == known:
            self.assertIsNone(other)
            return False
        self.assertIsInstance(other, tuple)
        self.assertEqual(len(other), sheet.numbers)
        self.assertTrue(all(0 <= value < sheet.p for value in other))
        for way in paths:
            self.assertEqual(heard_by(sheet, plan, given, way), heard_by(sheet, plan, other, way))
        self.assertNotEqual(dot(sheet.p, row, given), dot(sheet.p, row, other))
        self.assertIs(alike(sheet, plan, paths, given, other), True)
        return True

    def test_sounds_the_same_and_has_another_sum(self):
        dice = Dice(75)
        seen = {True: 0, False: 0}
        for sheet in SHEETS:
            for plan in plans_for(sheet):
                for paths in some_ways(dice, sheet):
                    given = tuple(dice.below(sheet.p) for _ in range(sheet.numbers))
                    known = learnt(sheet, plan, paths)
                    sure = mix(sheet.p, sheet.numbers, [dice.below(sheet.p) for _ in known], known)
                    for row in (sure, dice.row(sheet.p, sheet.numbers)):
                        seen[self.check(sheet, plan, paths, given, row)] += 1
        self.assertGreater(min(seen.values()), 100)

    def test_none_just_where_the_row_is_learnt(self):
        for sheet in SMALL[:15]:
            for plan in plans_for(sheet)[:2]:
                for paths in some_ways(Dice(9), sheet)[1:4]:
                    known = room(sheet.p, sheet.numbers, learnt(sheet, plan, paths))
                    for row in all_rows(sheet.p, sheet.numbers):
                        self.assertEqual(twin(sheet, plan, paths, (1,) * sheet.numbers, row) is None, row in known)

    def test_known_ones(self):
        self.assertIsNone(twin(EXAMPLE, RIGHT, ALL_WAYS, (1, 2, 3), (2, 2, 0)))
        self.assertTrue(self.check(EXAMPLE, RIGHT, ALL_WAYS, (1, 2, 3), (2, 2, 1)))
        self.assertIsNone(twin(EXAMPLE, RIGHT, (), (1, 2, 3), (0, 0, 0)))
        self.assertEqual(twin(EXAMPLE, FULL, ((1, 0),), (1, 2, 3), (1, 0, 0))[1:], (2, 3))

    def test_great_sheets(self):
        sheet = great_sheet(7, star_tree(24))
        given = tuple(number % 7 for number in range(60))
        self.assertTrue(self.check(sheet, least_plan(sheet), ((0, 1), (5, 0)), given, (1,) * 60))


class Errors(unittest.TestCase):
    def test_no_plan(self):
        for thing in all_odd() + [(), ({}, ()), list(RIGHT), RIGHT[0], RIGHT + ((),)]:
            for paths in (ALL_WAYS, None):
                self.assertEqual(error_of(learnt, EXAMPLE, thing, paths), ("NoPlan", {}))
                self.assertEqual(error_of(alike, EXAMPLE, thing, paths, None, None), ("NoPlan", {}))
                self.assertEqual(error_of(twin, EXAMPLE, thing, paths, None, None), ("NoPlan", {}))

    def test_no_ways(self):
        for thing in NO_WAYS:
            for plan in (RIGHT, WRONG):
                self.assertEqual(error_of(learnt, EXAMPLE, plan, thing), ("NoWays", {}))
                self.assertEqual(error_of(alike, EXAMPLE, plan, thing, (1, 2, 3), (1, 2, 3)), ("NoWays", {}))
                self.assertEqual(error_of(alike, EXAMPLE, plan, thing, None, None), ("NoWays", {}))
                self.assertEqual(error_of(twin, EXAMPLE, plan, thing, (1, 2, 3), (1, 0, 0)), ("NoWays", {}))
                self.assertEqual(error_of(twin, EXAMPLE, plan, thing, None, None), ("NoWays", {}))
            self.assertEqual(error_of(surely_learnt, EXAMPLE, thing), ("NoWays", {}))
            self.assertEqual(error_of(can_hide, EXAMPLE, thing, (1, 2, 3)), ("NoWays", {}))
            self.assertEqual(error_of(can_hide, EXAMPLE, thing, None), ("NoWays", {}))

    def test_no_given(self):
        for given in NO_GIVENS:
            for plan in (RIGHT, WRONG):
                self.assertEqual(error_of(alike, EXAMPLE, plan, ALL_WAYS, given, (1, 2, 3)), ("NoGiven", {}))
                self.assertEqual(error_of(alike, EXAMPLE, plan, (), (1, 2, 3), given), ("NoGiven", {}))
                self.assertEqual(error_of(twin, EXAMPLE, plan, ALL_WAYS, given, (1, 2, 3)), ("NoGiven", {}))
                self.assertEqual(error_of(twin, EXAMPLE, plan, (), given, None), ("NoGiven", {}))

    def test_no_row(self):
        for row in NO_GIVENS:
            self.assertEqual(error_of(can_hide, EXAMPLE, ALL_WAYS, row), ("NoRow", {}))
            self.assertEqual(error_of(can_hide, EXAMPLE, (), row), ("NoRow", {}))
            for plan in (RIGHT, WRONG):
                self.assertEqual(error_of(twin, EXAMPLE, plan, ALL_WAYS, (1, 2, 3), row), ("NoRow", {}))

    def test_a_single_post_and_no_numbers(self):
        sheet = Sheet(5, Tree(()), (2,), (((1, 4), (0, 0)),))
        self.assertEqual(learnt(sheet, least_plan(sheet), ()), ())
        self.assertEqual(surely_learnt(sheet, ()), ())
        self.assertEqual(error_of(surely_learnt, sheet, ((0, 0),)), ("NoWays", {}))
        empty = Sheet(5, ROW_OF_THREE, (0, 0, 0), (((),), (), ()))
        plan = least_plan(empty)
        self.assertEqual(learnt(empty, plan, ALL_WAYS), ())
        self.assertIs(can_hide(empty, ALL_WAYS, ()), False)
        self.assertIs(alike(empty, plan, ALL_WAYS, (), ()), True)
        self.assertIsNone(twin(empty, plan, ALL_WAYS, (), ()))

    def test_what_is_passed_stays(self):
        plan = copy.deepcopy(FULL)
        learnt(EXAMPLE, plan, ALL_WAYS)
        alike(EXAMPLE, plan, ALL_WAYS, (1, 2, 3), (1, 2, 4))
        twin(EXAMPLE, plan, ((0, 1),), (1, 2, 3), (0, 0, 1))
        self.assertEqual(plan, FULL)

    def test_the_wrong_plan_is_one(self):
        self.assertIs(is_shape(EXAMPLE, WRONG), True)
        self.assertIs(is_right(EXAMPLE, WRONG), False)


if __name__ == "__main__":
    unittest.main()
