"""Paces at which batches can go, and pacings of plans."""

import copy
import unittest

from sametolls.batches import best_pace, is_pacing, lag, least_pace, pacing
from sametolls.plans import least_plan
from sametolls.sheets import Sheet
from sametolls.trees import Tree, ways
from tests.support import (EXAMPLE, Dice, all_odd, error_of, full_plan, great_sheet, nested, numbers_at, own_rank,
                           row_tree, some_sheets, spread_block, star_tree, units, ways_in)

NO_NUMBERS = all_odd() + [0, -1, "1", (1,), [1], {}]
GOOD = {(0, 1): (1,), (1, 0): (), (1, 2): (1,), (2, 1): ()}
PLAN = least_plan(EXAMPLE)


def with_more(sheet, plan, more):
    """The plan that says some more noughts over each way, which nobody hears."""
    says = {}
    for here, there in plan[0]:
        rows = [spread(sheet, plan, here, there, row, more) for row in plan[0][here, there]]
        wide = sheet.holds[here] + sum(len(plan[0][way]) + more for way in ways_in(sheet.tree, here, there))
        says[here, there] = tuple(rows) + ((0,) * wide,) * more
    answers = tuple(tuple(spread(sheet, plan, post, None, row, more) for row in rows)
                    for post, rows in enumerate(plan[1]))
    return says, answers


def spread(sheet, plan, here, there, row, more):
    """A row with noughts for what is said besides."""
    found = row[:sheet.holds[here]]
    at = sheet.holds[here]
    for way in ways_in(sheet.tree, here, there):
        count = len(plan[0][way])
        found += row[at:at + count] + (0,) * more
        at += count
    return found


def fits(sheet, plan, breadth, pace, found):
    """Whether ticks for all that a plan says fit, by the words of the document."""
    for here, there in plan[0]:
        ticks = found[here, there]
        heard = [tick for way in ways_in(sheet.tree, here, there) for tick in found[way]]
        own = len(numbers_at(sheet, here))
        for row, tick in zip(plan[0][here, there], ticks):
            if any(value != 0 and tick <= then for value, then in zip(row[own:], heard)):
                return False
        for tick in ticks:
            if sum(other % pace == tick % pace for other in ticks) > breadth:
                return False
    return all(1 <= tick <= 5000 for ticks in found.values() for tick in ticks)


def plans_of(sheet):
    """Plans that say as little as can be, all there is, and more."""
    least = least_plan(sheet)
    return [least, full_plan(sheet), with_more(sheet, least, 2)]


def most_said(plan):
    """How many numbers go over the way over which most go."""
    return max([0] + [len(rows) for rows in plan[0].values()])


def rounded_up(many, breadth):
    """How often breadth goes into many, rounded up, 1 at least."""
    return max(1, (many + breadth - 1) // breadth)


class Pacings(unittest.TestCase):
    def check(self, sheet, plan, breadth, pace):
        found = pacing(sheet, plan, breadth, pace)
        if most_said(plan) > pace * breadth:
            self.assertIsNone(found)
            return
        self.assertEqual(set(found), set(ways(sheet.tree)))
        for way in found:
            self.assertIsInstance(found[way], tuple)
            self.assertEqual(len(found[way]), len(plan[0][way]))
        self.assertTrue(fits(sheet, plan, breadth, pace, found))
        self.assertIs(is_pacing(sheet, plan, breadth, pace, found), True)
        self.assertEqual(lag(sheet, plan, found), max([0] + [tick for ticks in found.values() for tick in ticks]))

    def test_there_exactly_where_there_are_places(self):
        dice = Dice(951)
        for sheet in some_sheets(952, 40, 6, 3, 3):
            for plan in plans_of(sheet):
                for pace, breadth in ((1, 1), (2, 1), (1, 2), (3, 1), (1 + dice.below(9), 1 + dice.below(8)), (200, 8)):
                    self.check(sheet, plan, breadth, pace)

    def test_least_paces(self):
        for sheet in some_sheets(953, 40, 6, 3, 3):
            for plan in plans_of(sheet):
                for breadth in range(1, 9):
                    pace = least_pace(sheet, plan, breadth)
                    self.assertEqual(pace, rounded_up(most_said(plan), breadth))
                    self.check(sheet, plan, breadth, pace)
                    if pace > 1:
                        self.assertIsNone(pacing(sheet, plan, breadth, pace - 1))

    def test_best_paces(self):
        for sheet in some_sheets(954, 60, 6, 3, 3) + [great_sheet()]:
            most = max([0] + [own_rank(sheet.p, spread_block(sheet, way)) for way in ways(sheet.tree)])
            for breadth in range(1, 9):
                self.assertEqual(best_pace(sheet, breadth), rounded_up(most, breadth))
                self.assertEqual(least_pace(sheet, least_plan(sheet), breadth), best_pace(sheet, breadth))

    def test_sixty_numbers_over_a_way(self):
        holds = (8,) * 7 + (4,) + (0,) * 8
        wants = ((),) * 8 + tuple(tuple(units(60)[8 * at:8 * at + 8]) for at in range(8))
        sheet = Sheet(2, row_tree(16), holds, wants)
        plan = least_plan(sheet)
        self.assertEqual(most_said(plan), 60)
        for breadth, pace in ((1, 60), (1, 59), (2, 30), (7, 9), (7, 8), (8, 8), (8, 7), (1, 200)):
            self.check(sheet, plan, breadth, pace)
        self.assertEqual([least_pace(sheet, plan, breadth) for breadth in range(1, 9)], [60, 30, 20, 15, 12, 10, 9, 8])

    def test_the_greatest_pace_on_the_longest_way(self):
        for sheet in (great_sheet(), great_sheet(2), great_sheet(7, star_tree(24, 9))):
            plan = least_plan(sheet)
            for breadth, pace in ((1, 200), (8, 200), (1, best_pace(sheet, 1)), (3, best_pace(sheet, 3))):
                self.check(sheet, plan, breadth, pace)

    def test_nothing_to_say(self):
        for sheet in (Sheet(2, Tree(()), (3,), (((1, 1, 0),),)), Sheet(3, row_tree(3), (1, 0, 0), ((), (), ()))):
            plan = least_plan(sheet)
            found = pacing(sheet, plan, 1, 1)
            self.assertEqual(found, {way: () for way in ways(sheet.tree)})
            self.assertEqual((least_pace(sheet, plan, 1), best_pace(sheet, 8), lag(sheet, plan, found)), (1, 1, 0))

    def test_new_dicts_and_what_is_passed_stays(self):
        before = copy.deepcopy(PLAN)
        first = pacing(EXAMPLE, PLAN, 1, 1)
        first.clear()
        self.assertEqual(pacing(EXAMPLE, PLAN, 1, 1), GOOD)
        self.assertEqual(PLAN, before)


class IsPacing(unittest.TestCase):
    def test_ticks_with_one_thing_otherwise(self):
        dice = Dice(961)
        seen = []
        for sheet in some_sheets(962, 40, 5, 3, 3):
            for plan in plans_of(sheet):
                pace = least_pace(sheet, plan, 2) + dice.below(2)
                found = pacing(sheet, plan, 2, pace)
                for _ in range(8):
                    other = dict(found)
                    at = sorted(other)[dice.below(len(other))] if other else None
                    if at is None or not other[at]:
                        continue
                    place = dice.below(len(other[at]))
                    tick = other[at][place] + dice.below(5) - 2
                    other[at] = other[at][:place] + (tick,) + other[at][place + 1:]
                    good = fits(sheet, plan, 2, pace, other)
                    self.assertIs(is_pacing(sheet, plan, 2, pace, other), good)
                    seen.append(good)
        self.assertGreater(seen.count(True), 50)
        self.assertGreater(seen.count(False), 50)

    def test_too_early_and_too_many_alike(self):
        sheet = Sheet(5, row_tree(3), (2, 0, 0), ((), (), ((1, 0), (0, 1))))
        plan = ({(0, 1): ((1, 0), (0, 1)), (1, 2): ((1, 0), (1, 1)), (1, 0): (), (2, 1): ()}, ((), (), ((1, 0), (4, 1))))
        for first, second, breadth, pace, good in (((1, 2), (2, 3), 1, 2, True), ((1, 2), (2, 2), 2, 2, False),
                                                   ((2, 1), (3, 3), 2, 2, True), ((2, 1), (3, 3), 1, 2, False),
                                                   ((1, 3), (2, 5), 1, 2, False), ((1, 3), (2, 5), 1, 3, False),
                                                   ((1, 3), (2, 4), 1, 3, True), ((1, 1), (2, 2), 2, 1, True),
                                                   ((3, 2), (4, 4), 2, 200, True), ((2, 3), (2, 4), 2, 200, False),
                                                   ((1, 201), (2, 203), 1, 200, False), ((1, 201), (2, 203), 2, 200, True),
                                                   ((4999, 1), (5000, 5000), 2, 200, True)):
            found = {(0, 1): first, (1, 2): second, (1, 0): (), (2, 1): ()}
            self.assertIs(is_pacing(sheet, plan, breadth, pace, found), good, found)

    def test_what_has_not_the_form(self):
        self.assertIs(is_pacing(EXAMPLE, PLAN, 1, 1, GOOD), True)
        self.assertEqual(lag(EXAMPLE, PLAN, GOOD), 1)
        for thing in no_forms():
            self.assertIs(is_pacing(EXAMPLE, PLAN, 1, 1, thing), False, thing)
            self.assertEqual(error_of(lag, EXAMPLE, PLAN, thing), ("NotPlanned", {}), thing)

    def test_lag_of_what_does_not_fit(self):
        sheet = Sheet(5, row_tree(3), (1, 0, 0), ((), (), ((1,),)))
        plan = least_plan(sheet)
        early = {(0, 1): (7,), (1, 2): (5000,), (1, 0): (), (2, 1): ()}
        self.assertEqual(lag(sheet, plan, early), 5000)
        early[1, 2] = (3,)
        self.assertIs(is_pacing(sheet, plan, 1, 1, early), False)
        self.assertEqual(lag(sheet, plan, early), 7)


def no_forms():
    """Things that have not the form of a pacing of the example's least plan."""
    found = all_odd() + [{}, list(GOOD), tuple(GOOD.items()), GOOD[0, 1], (GOOD,), [GOOD]]
    for way in GOOD:
        found.append({other: GOOD[other] for other in GOOD if other != way})
        found.append({(other if other != way else (0, 2)): GOOD[other] for other in GOOD})
    found.append({**GOOD, (0, 2): ()})
    found.append({**GOOD, None: ()})
    found += [{**GOOD, (1, 0): thing} for thing in ((1,), [], None, 0, {}, "")]
    found += [{**GOOD, (0, 1): thing} for thing in all_odd() + [(), (0,), (5001,), (-1,), (True,), [1], (None,), ("1",),
                                                                1, (1, 2), ((1,),), {0: 1}, (10 ** 59,), ([1],)]]
    return found


class Errors(unittest.TestCase):
    def calls(self, plan, breadth, pace):
        yield is_pacing, (EXAMPLE, plan, breadth, pace, GOOD)
        yield pacing, (EXAMPLE, plan, breadth, pace)

    def test_no_plan_ahead_of_all(self):
        for plan in all_odd() + [PLAN[0], list(PLAN), PLAN + ((),), ({}, PLAN[1]), (PLAN[0], ()), nested("pair", 5)]:
            for breadth, pace in ((1, 1), (None, None)):
                for call, args in self.calls(plan, breadth, pace):
                    self.assertEqual(error_of(call, *args), ("NoPlan", {}))
            self.assertEqual(error_of(least_pace, EXAMPLE, plan, 1), ("NoPlan", {}))
            self.assertEqual(error_of(least_pace, EXAMPLE, plan, None), ("NoPlan", {}))
            self.assertEqual(error_of(lag, EXAMPLE, plan, GOOD), ("NoPlan", {}))
            self.assertEqual(error_of(lag, EXAMPLE, plan, None), ("NoPlan", {}))

    def test_no_number_for_breadth_and_pace(self):
        for breadth in NO_NUMBERS + [9]:
            for pace in (1, None):
                for call, args in self.calls(PLAN, breadth, pace):
                    self.assertEqual(error_of(call, *args), ("NoNumber", {}))
            self.assertEqual(error_of(least_pace, EXAMPLE, PLAN, breadth), ("NoNumber", {}))
            self.assertEqual(error_of(best_pace, EXAMPLE, breadth), ("NoNumber", {}))
        for pace in NO_NUMBERS + [201]:
            for call, args in self.calls(PLAN, 1, pace):
                self.assertEqual(error_of(call, *args), ("NoNumber", {}))
        for breadth, pace in ((1, 1), (8, 200), (8, 1), (1, 200)):
            for call, args in self.calls(PLAN, breadth, pace):
                self.assertIsNone(error_of(call, *args))

    def test_wrong_plans_are_paced_too(self):
        wrong = (PLAN[0], (((0,),), ((0, 0),), ((0, 0),)))
        self.assertEqual(pacing(EXAMPLE, wrong, 1, 1), GOOD)
        self.assertEqual(least_pace(EXAMPLE, wrong, 1), 1)


if __name__ == "__main__":
    unittest.main()
