"""What plans say and answer, least plans, and what others say beside them."""

import copy
import unittest

from sametolls.clocks import mixture, rank
from sametolls.plans import counts, first_wrong, is_right, is_shape, least_plan, over, said, translated
from sametolls.sheets import Sheet
from sametolls.tolls import tolls
from sametolls.trees import Tree, ways
from tests.support import (EXAMPLE, ROW_OF_THREE, Dice, all_odd, error_of, full_plan, great_sheet,
                           heard_by, mix, plan_saying, room, row_tree, some_sheets, spoken, spread_block, star_tree,
                           times, units)

SHEETS = some_sheets(51, 60)
GREAT = [great_sheet(), great_sheet(2, star_tree(24, 3))]
NO_WAYS = all_odd() + [(0, 2), (0, 0), [0, 1], (True, 0), (0, 1, 2), (), ((0, 1),), (0, [1]), {}]
RIGHT = least_plan(EXAMPLE)
WRONG = RIGHT[0], RIGHT[1][:2] + (((2, 1),),)


def block_plan(sheet):
    """The right plan that says whole blocks, noughts and mixtures too."""
    return plan_saying(sheet, {way: spread_block(sheet, way) for way in ways(sheet.tree)})


def other_least_plan(dice, sheet):
    """A least plan that says other rows of the same rooms than least_plan does."""
    told = {}
    for way in ways(sheet.tree):
        rows = list(said(sheet, least_plan(sheet), way))
        for number in range(len(rows)):
            factors = [dice.below(sheet.p) for _ in rows]
            factors[number] = 1 + dice.below(sheet.p - 1)
            rows[number] = mix(sheet.p, sheet.numbers, factors, rows)
        told[way] = dice.mixed(rows)
    return plan_saying(sheet, told)


def wordy_plan(dice, sheet):
    """A right plan that says more than it must over some ways: mixtures and noughts among it."""
    told = {}
    for way in ways(sheet.tree):
        rows = list(said(sheet, least_plan(sheet), way))
        for _ in range(dice.below(3)):
            rows.append(mix(sheet.p, sheet.numbers, [dice.below(sheet.p) for _ in rows], rows))
        told[way] = dice.mixed(rows)
    return plan_saying(sheet, told)


def plans_for(seed, sheet):
    """Right plans of all kinds."""
    dice = Dice(seed)
    return [least_plan(sheet), full_plan(sheet), block_plan(sheet), other_least_plan(dice, sheet),
            wordy_plan(dice, sheet)]


def wrong_plans(seed, sheet):
    """Plans of the right form, most of them wrong: each with one row otherwise."""
    dice = Dice(seed)
    found = []
    for says, answers in plans_for(seed, sheet):
        for way in ways(sheet.tree):
            if says[way]:
                number = dice.below(len(says[way]))
                rows = says[way][:number] + (dice.row(sheet.p, len(says[way][number])),) + says[way][number + 1:]
                found.append(({**says, way: rows}, answers))
        for post, rows in enumerate(answers):
            if rows:
                more = rows[:-1] + (dice.row(sheet.p, len(rows[-1])),)
                found.append((says, answers[:post] + (more,) + answers[post + 1:]))
    return found


def rows_said(sheet, plan, way):
    """What is said over a way for each number alone, put together to rows."""
    columns = [heard_by(sheet, plan, unit, way) for unit in units(sheet.numbers)]
    return tuple(tuple(column[row] for column in columns) for row in range(len(plan[0][way])))


def wrong_by_asking(sheet, plan):
    """The first answer that is not what is wanted when some number alone is 1."""
    for post, rows in enumerate(sheet.wants):
        told = [spoken(sheet, plan, unit, post, None, plan[1][post]) for unit in units(sheet.numbers)]
        for want, row in enumerate(rows):
            if tuple(column[want] for column in told) != row:
                return post, want
    return None


class Said(unittest.TestCase):
    def test_put_to_all_numbers(self):
        for seed, sheet in enumerate(SHEETS):
            for plan in plans_for(seed, sheet) + wrong_plans(seed, sheet)[:6]:
                for way in ways(sheet.tree):
                    found = said(sheet, plan, way)
                    self.assertIsInstance(found, tuple)
                    self.assertEqual(found, rows_said(sheet, plan, way))

    def test_noughts_for_numbers_beyond(self):
        for sheet in SHEETS:
            plan = full_plan(sheet)
            for way in ways(sheet.tree):
                back = said(sheet, plan, (way[1], way[0]))
                here = said(sheet, plan, way)
                self.assertEqual(sorted(here + back, reverse=True), units(sheet.numbers))

    def test_counts(self):
        for seed, sheet in enumerate(SHEETS):
            for plan in plans_for(seed, sheet) + wrong_plans(seed, sheet)[:6]:
                self.assertEqual(counts(sheet, plan), {way: len(plan[0][way]) for way in ways(sheet.tree)})
        found = counts(EXAMPLE, RIGHT)
        found.clear()
        self.assertEqual(counts(EXAMPLE, RIGHT), {(0, 1): 1, (1, 0): 0, (1, 2): 1, (2, 1): 0})

    def test_known_ones(self):
        self.assertEqual(said(EXAMPLE, RIGHT, (1, 0)), ())
        says = {(0, 1): ((2,),), (1, 0): (), (1, 2): ((3, 1),), (2, 1): ((4,), (0,))}
        plan = says, (((1,),), ((1, 3, 2, 0),), ((1, 2),))
        self.assertIs(is_shape(EXAMPLE, plan), True)
        self.assertEqual(said(EXAMPLE, plan, (0, 1)), ((2, 0, 0),))
        self.assertEqual(said(EXAMPLE, plan, (1, 2)), ((2, 3, 0),))
        self.assertEqual(said(EXAMPLE, plan, (2, 1)), ((0, 0, 4), (0, 0, 0)))
        self.assertEqual(first_wrong(EXAMPLE, plan), (1, 0))


class Wrong(unittest.TestCase):
    def test_first_wrong(self):
        seen = {}
        for seed, sheet in enumerate(SHEETS):
            for plan in plans_for(seed, sheet):
                self.assertIsNone(first_wrong(sheet, plan))
                self.assertIs(is_right(sheet, plan), True)
            for plan in wrong_plans(seed, sheet):
                self.assertIs(is_shape(sheet, plan), True)
                found = first_wrong(sheet, plan)
                self.assertEqual(found, wrong_by_asking(sheet, plan))
                self.assertIs(is_right(sheet, plan), found is None)
                seen[found is None] = seen.get(found is None, 0) + 1
        self.assertGreater(min(seen.values()), 20)

    def test_the_first_of_several(self):
        wants = (((1, 0), (0, 1)), ((0, 1), (1, 1)))
        sheet = Sheet(3, Tree(((0, 1),)), (1, 1), wants)
        says = {(0, 1): ((1,),), (1, 0): ((1,),)}
        right = ((1, 0), (0, 1)), ((1, 0), (1, 1))
        self.assertIsNone(first_wrong(sheet, (says, right)))
        self.assertEqual(first_wrong(sheet, (says, (right[0], ((2, 0), (0, 0))))), (1, 0))
        self.assertEqual(first_wrong(sheet, (says, (right[0], (right[1][0], (0, 0))))), (1, 1))
        self.assertEqual(first_wrong(sheet, (says, ((right[0][0], (1, 1)), ((2, 0), (0, 0))))), (0, 1))
        self.assertEqual(first_wrong(sheet, (says, ((right[0][0], (1, 1)), right[1]))), (0, 1))

    def test_wrong_by_what_is_said_ahead(self):
        says = {**RIGHT[0], (0, 1): ((0,),)}
        self.assertEqual(first_wrong(EXAMPLE, (says, RIGHT[1])), (1, 0))
        says = {**RIGHT[0], (1, 2): ((1, 3),)}
        self.assertEqual(first_wrong(EXAMPLE, (says, RIGHT[1])), (2, 0))


class Least(unittest.TestCase):
    def test_right_and_as_many_as_the_toll(self):
        for sheet in SHEETS + some_sheets(52, 60, 9, 4, 4) + GREAT:
            plan = least_plan(sheet)
            self.assertIs(is_shape(sheet, plan), True)
            self.assertIsNone(first_wrong(sheet, plan))
            self.assertEqual(counts(sheet, plan), tolls(sheet))
            self.assertEqual(least_plan(sheet), plan)

    def test_right_by_asking(self):
        for sheet in SHEETS:
            self.assertIsNone(wrong_by_asking(sheet, least_plan(sheet)))

    def test_single_posts_and_nothing_held_or_wanted(self):
        noughts = ((0, 0, 0),) * 3
        for sheet in (Sheet(5, Tree(()), (2,), (((1, 4), (0, 0)),)), Sheet(5, Tree(()), (0,), ((),)),
                      Sheet(2, ROW_OF_THREE, (0, 0, 0), ((), ((),), ())), Sheet(2, ROW_OF_THREE, (1, 1, 1), ((),) * 3),
                      Sheet(2, ROW_OF_THREE, (1, 1, 1), (noughts,) * 3)):
            plan = least_plan(sheet)
            self.assertIs(is_right(sheet, plan), True)
            self.assertEqual({way: len(rows) for way, rows in plan[0].items()}, {way: 0 for way in ways(sheet.tree)})

    def test_plans_are_new(self):
        plan = least_plan(EXAMPLE)
        plan[0].clear()
        self.assertEqual(least_plan(EXAMPLE), RIGHT)

    def test_no_right_plan_says_fewer(self):
        for sheet in some_sheets(53, 40, 4, 2, 2, (2, 3)):
            for plan in plans_for(7, sheet):
                for way in ways(sheet.tree):
                    spanned = room(sheet.p, sheet.numbers, said(sheet, plan, way))
                    self.assertLessEqual(set(spread_block(sheet, way)), spanned)


class Over(unittest.TestCase):
    def test_how_many_more(self):
        seen = 0
        for seed, sheet in enumerate(SHEETS):
            least = tolls(sheet)
            for plan in plans_for(seed, sheet):
                more = {way: len(plan[0][way]) - least[way] for way in least}
                self.assertEqual(over(sheet, plan), {way: many for way, many in more.items() if many > 0})
                seen += sum(more.values())
            self.assertEqual(over(sheet, least_plan(sheet)), {})
            self.assertEqual(over(sheet, other_least_plan(Dice(seed), sheet)), {})
        self.assertGreater(seen, 100)

    def test_known_ones(self):
        self.assertEqual(over(EXAMPLE, full_plan(EXAMPLE)), {(1, 0): 2, (1, 2): 1, (2, 1): 1})
        over(EXAMPLE, full_plan(EXAMPLE)).clear()
        self.assertEqual(over(EXAMPLE, full_plan(EXAMPLE)), {(1, 0): 2, (1, 2): 1, (2, 1): 1})

    def test_errors(self):
        for thing in all_odd() + [(), ({}, ()), list(RIGHT)]:
            self.assertEqual(error_of(over, EXAMPLE, thing), ("NoPlan", {}))
        self.assertEqual(error_of(over, EXAMPLE, WRONG), ("NotRight", {}))
        for sheet in SHEETS[:20]:
            for plan in wrong_plans(3, sheet):
                due = None if is_right(sheet, plan) else ("NotRight", {})
                self.assertEqual(error_of(over, sheet, plan), due)


class Translated(unittest.TestCase):
    def check(self, sheet, plan, other):
        found = translated(sheet, plan, other)
        self.assertIsInstance(found, dict)
        self.assertEqual(sorted(found), ways(sheet.tree))
        for way in found:
            self.assertIsInstance(found[way], tuple)
            rows = said(sheet, plan, way)
            made = said(sheet, other, way)
            self.assertEqual(len(found[way]), len(made))
            for factors, row in zip(found[way], made):
                self.assertIsInstance(factors, tuple)
                self.assertEqual(len(factors), len(rows))
                self.assertTrue(all(0 <= factor < sheet.p for factor in factors))
                self.assertEqual(mix(sheet.p, sheet.numbers, factors, rows), row)

    def test_made_of_what_each_right_plan_says(self):
        for seed, sheet in enumerate(SHEETS):
            for plan in plans_for(seed, sheet):
                self.check(sheet, plan, least_plan(sheet))
                self.check(sheet, plan, other_least_plan(Dice(seed + 9), sheet))

    def test_great_sheets(self):
        for sheet in GREAT:
            self.check(sheet, least_plan(sheet), least_plan(sheet))
        for sheet in some_sheets(54, 3, 9, 4, 4):
            self.check(sheet, wordy_plan(Dice(2), sheet), other_least_plan(Dice(1), sheet))

    def test_dicts_are_new(self):
        translated(EXAMPLE, RIGHT, RIGHT).clear()
        self.assertEqual(translated(EXAMPLE, RIGHT, RIGHT), {(0, 1): ((1,),), (1, 0): (), (1, 2): ((1,),), (2, 1): ()})

    def test_errors_in_their_order(self):
        more = full_plan(EXAMPLE)
        for thing in all_odd() + [(), ({}, ()), list(RIGHT)]:
            for other in (RIGHT, WRONG, more, None):
                self.assertEqual(error_of(translated, EXAMPLE, thing, other), ("NoPlan", {}))
            self.assertEqual(error_of(translated, EXAMPLE, WRONG, thing), ("NotRight", {}))
            self.assertEqual(error_of(translated, EXAMPLE, more, thing), ("NoPlan", {}))
        wrong_more = more[0], more[1][:2] + (((1, 1, 2),),)
        self.assertIs(is_shape(EXAMPLE, wrong_more), True)
        for other in (RIGHT, WRONG, more, wrong_more, None):
            self.assertEqual(error_of(translated, EXAMPLE, WRONG, other), ("NotRight", {}))
        self.assertEqual(error_of(translated, EXAMPLE, RIGHT, WRONG), ("NotRight", {}))
        self.assertEqual(error_of(translated, EXAMPLE, RIGHT, wrong_more), ("NotRight", {}))
        self.assertEqual(error_of(translated, EXAMPLE, RIGHT, more), ("NotLeast", {}))
        self.assertEqual(error_of(translated, EXAMPLE, more, more), ("NotLeast", {}))
        self.assertIsNone(error_of(translated, EXAMPLE, more, RIGHT))

    def test_not_least_over_one_way_alone(self):
        for way in ways(EXAMPLE.tree):
            told = {other: list(said(EXAMPLE, RIGHT, other)) for other in ways(EXAMPLE.tree)}
            told[way].append((0, 0, 0))
            plan = plan_saying(EXAMPLE, told)
            self.assertEqual(over(EXAMPLE, plan), {way: 1})
            self.assertEqual(error_of(translated, EXAMPLE, RIGHT, plan), ("NotLeast", {}))
            self.check(EXAMPLE, plan, RIGHT)


class Errors(unittest.TestCase):
    def test_no_plan(self):
        for thing in all_odd() + [(), ({}, ()), list(RIGHT), RIGHT[0], RIGHT + ((),)]:
            for call in (first_wrong, counts):
                self.assertEqual(error_of(call, EXAMPLE, thing), ("NoPlan", {}))
            self.assertEqual(error_of(said, EXAMPLE, thing, (0, 1)), ("NoPlan", {}))
            self.assertEqual(error_of(said, EXAMPLE, thing, None), ("NoPlan", {}))

    def test_no_way(self):
        for thing in NO_WAYS:
            for plan in (RIGHT, WRONG):
                self.assertEqual(error_of(said, EXAMPLE, plan, thing), ("NoWay", {}))

    def test_wrong_plans_are_told_of(self):
        self.assertEqual(said(EXAMPLE, WRONG, (0, 1)), ((1, 0, 0),))
        self.assertEqual(first_wrong(EXAMPLE, WRONG), (2, 0))
        self.assertEqual(counts(EXAMPLE, WRONG), counts(EXAMPLE, RIGHT))

    def test_what_is_passed_stays(self):
        plan = full_plan(EXAMPLE)
        kept = copy.deepcopy(plan)
        least = copy.deepcopy(RIGHT)
        for call in (is_shape, is_right, first_wrong, counts, over):
            call(EXAMPLE, plan)
        said(EXAMPLE, plan, (1, 2))
        translated(EXAMPLE, plan, RIGHT)
        self.assertEqual((plan, RIGHT), (kept, least))


class Helpers(unittest.TestCase):
    def test_plans_made_here_are_of_all_kinds(self):
        sheet = Sheet(7, row_tree(3), (2, 0, 2), ((), ((1, 1, 1, 1),), ((1, 2, 0, 0), (2, 4, 0, 1), (0, 1, 0, 0))))
        self.assertEqual(tolls(sheet)[0, 1], 2)
        least = other_least_plan(Dice(4), sheet)
        self.assertNotEqual(said(sheet, least, (0, 1)), said(sheet, least_plan(sheet), (0, 1)))
        self.assertIs(is_right(sheet, least), True)
        self.assertEqual(rank(7, 4, said(sheet, least, (0, 1))), 2)
        self.assertIsNotNone(mixture(7, 4, said(sheet, least, (0, 1)), times(7, 3, (1, 1, 0, 0))))


if __name__ == "__main__":
    unittest.main()
