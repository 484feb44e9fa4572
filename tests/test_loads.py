"""Loads of a row of posts, cuts that bar them, and the least tick by which all can be led."""

import copy
import unittest
from itertools import product

from sametolls.loads import barred, between, can_by, is_too_much, least_cut, least_tick, load, too_much
from sametolls.openings import Timing, even_timing
from sametolls.sheets import Sheet
from sametolls.trees import Tree
from tests.support import (EXAMPLE, Dice, all_odd, error_of, great_sheet, numbers_at, rank_between, row_sheets, room,
                           row_tree, some_sheet, some_timing, spaces, star_tree, units)

SHUT = ((), (0,))
ONCE = ((), (1,))
NO_TICKS = all_odd() + [-1, 5001, 10 ** 9, "1", (1,), [1], {}]
NOT_ROWS = [star_tree(4), star_tree(3, 0), Tree(((0, 2), (1, 2))), Tree(((0, 1), (0, 2), (2, 3)))]


def two_posts(posts):
    """All pairs of two posts."""
    return [(one, other) for one in range(posts) for other in range(posts) if one != other]


def steps(one, other):
    """The ways from one post of a row to another."""
    turn = 1 if one < other else -1
    return [(post, post + turn) for post in range(one, other, turn)]


def led(timing, one, other, ticks):
    """How many numbers are at the other post behind each tick from 0 on, all being sent on at once."""
    line = steps(one, other)
    places = [spaces(timing, way, ticks) for way in line]
    there = [10 ** 9] + [0] * len(line)
    found = [0]
    for tick in range(ticks):
        sent = [min(there[at], places[at][tick]) for at in range(len(line))]
        for at, count in enumerate(sent):
            there[at] -= count
            there[at + 1] += count
        found.append(there[-1])
    return found


def all_cuts(ties, tick):
    """All cuts, by the words of the document."""
    found = []
    for cut in product(range(tick + 1), repeat=ties):
        pairs = list(zip(cut, cut[1:]))
        if cut[0] == 0 and all((own == 0 and ahead == 0) or own > ahead for ahead, own in pairs):
            found.append(cut)
    return found


def shut_places(timing, one, other, tick, cut):
    """How many places a cut bars, tick by tick."""
    total = 0
    for at, way in enumerate(steps(one, other)):
        places = [0] + spaces(timing, way, tick)
        for then in range(cut[at] + 1, tick + 1):
            if at == len(cut) - 1 or then < cut[at + 1]:
                total += places[then]
    return total


def some_cut(dice, ties, tick):
    """A cut, drawn."""
    first = max(dice.below(ties), ties - tick - 1) if ties > 1 else 0
    late = sorted(dice.mixed(range(1, tick + 1))[:ties - first - 1])
    return (0,) * (ties - len(late)) + tuple(late)


class Loads(unittest.TestCase):
    def check(self, timing, ticks):
        for one, other in two_posts(len(timing.right) + 1):
            most = led(timing, one, other, max(ticks))
            for tick in ticks:
                self.assertEqual(load(timing, one, other, tick), most[tick])

    def test_against_a_going_tick_by_tick(self):
        dice = Dice(801)
        for _ in range(40):
            self.check(some_timing(dice, dice.below(6)), range(41))

    def test_five_thousand_ticks(self):
        dice = Dice(802)
        for _ in range(2):
            self.check(some_timing(dice, 3), (4999, 5000))
        self.assertEqual(load(even_timing(23, 8), 23, 0, 5000), 8 * (5000 - 22))
        self.assertEqual(load(even_timing(23, 1), 0, 23, 22), 0)
        self.assertEqual(load(even_timing(23, 1), 0, 23, 23), 1)

    def test_shut_for_long_or_for_ever(self):
        long = ((0,) * 40, (0,) * 39 + (2,))
        for right, left in (((ONCE, long, ONCE), (long, SHUT, long)), ((SHUT,) * 3, (long,) * 3)):
            self.check(Timing(right, left), range(0, 130, 3))
        self.assertEqual(load(Timing((long, long), (SHUT, SHUT)), 0, 2, 120), 2)
        self.assertEqual(load(Timing((long, long), (SHUT, SHUT)), 0, 2, 119), 0)
        self.assertEqual(load(Timing((ONCE, ONCE), (SHUT, ONCE)), 2, 0, 5000), 0)

    def test_known_ones(self):
        timing = Timing((((3, 0, 0), (1,)), ONCE), (ONCE, ONCE))
        self.assertEqual([load(timing, 0, 2, tick) for tick in range(8)], [0, 0, 1, 2, 3, 4, 5, 6])
        self.assertEqual([load(timing, 0, 1, tick) for tick in range(6)], [0, 3, 3, 3, 4, 5])

    def test_wrong_posts_then_wrong_ticks(self):
        timing = even_timing(2, 1)
        cuts = {barred: ((0,), None), load: ((),), least_cut: ((),)}
        for call, more in cuts.items():
            more = more[:1] if more[0] else ()
            for post in all_odd() + [3, 4, -1, "0", (0,), [1], {}]:
                self.assertEqual(error_of(call, timing, post, 1, 1, *more), ("NoPost", {}))
                self.assertEqual(error_of(call, timing, 1, post, None, *more), ("NoPost", {}))
                self.assertEqual(error_of(call, timing, post, post, None, *more), ("NoPost", {}))
            for post in range(3):
                self.assertEqual(error_of(call, timing, post, post, 1, *more), ("NoPost", {}))
            self.assertEqual(error_of(call, Timing((), ()), 0, 0, 1, *more), ("NoPost", {}))
            for tick in NO_TICKS:
                self.assertEqual(error_of(call, timing, 0, 1, tick, *more), ("NoTick", {}))
                self.assertEqual(error_of(call, timing, 2, 0, tick, *[None for _ in more]), ("NoTick", {}))
            self.assertIsNone(error_of(call, timing, 0, 1, 5000, *more))
            self.assertIsNone(error_of(call, timing, 0, 1, 0, *more))


class Cuts(unittest.TestCase):
    def test_least_cut_bars_just_the_load(self):
        dice = Dice(811)
        for _ in range(25):
            timing = some_timing(dice, 1 + dice.below(3))
            for one, other in two_posts(len(timing.right) + 1):
                for tick in (0, 1, 2, 3, 7):
                    cut = least_cut(timing, one, other, tick)
                    cuts = all_cuts(abs(one - other), tick)
                    self.assertIn(cut, cuts)
                    most = load(timing, one, other, tick)
                    self.assertEqual(barred(timing, one, other, tick, cut), most)
                    found = [barred(timing, one, other, tick, thing) for thing in cuts]
                    self.assertEqual(min(found), most)
                    self.assertEqual(found, [shut_places(timing, one, other, tick, thing) for thing in cuts])

    def test_far_ticks(self):
        dice = Dice(812)
        for _ in range(12):
            ties = 1 + dice.below(8)
            timing = some_timing(dice, ties, 40)
            for one, other in ((0, ties), (ties, 0)):
                for tick in (dice.below(3), ties, 40, 100 + dice.below(100)):
                    cut = least_cut(timing, one, other, tick)
                    self.assertEqual(shut_places(timing, one, other, tick, cut), led(timing, one, other, tick)[-1])
                    self.assertEqual(barred(timing, one, other, tick, cut), load(timing, one, other, tick))
                    for _ in range(20):
                        drawn = some_cut(dice, ties, tick)
                        many = barred(timing, one, other, tick, drawn)
                        self.assertEqual(many, shut_places(timing, one, other, tick, drawn))
                        self.assertGreaterEqual(many, load(timing, one, other, tick))

    def test_the_last_tick_and_the_longest_row(self):
        timing = Timing((((0,) * 40, (0,) * 39 + (1,)),) * 23, (((7,), (8, 0)),) * 23)
        for one, other in ((0, 23), (23, 0), (3, 4)):
            cut = least_cut(timing, one, other, 5000)
            self.assertEqual(barred(timing, one, other, 5000, cut), load(timing, one, other, 5000))

    def test_known_ones(self):
        timing = Timing((((3, 0, 0), (1,)), ONCE, ((), (8,))), (ONCE,) * 3)
        self.assertEqual(barred(timing, 0, 3, 9, (0, 0, 0)), 72)
        self.assertEqual(barred(timing, 0, 3, 9, (0, 1, 2)), 56)
        self.assertEqual(barred(timing, 0, 3, 9, (0, 5, 9)), 3 + 1 + 3)
        self.assertEqual(barred(timing, 0, 3, 9, (0, 0, 9)), 8)
        self.assertEqual(barred(timing, 0, 3, 9, (0, 0, 1)), 64)
        self.assertEqual(barred(timing, 3, 0, 9, (0, 8, 9)), 7)
        self.assertEqual(barred(timing, 1, 2, 9, (0,)), 9)

    def test_what_is_no_cut(self):
        timing = even_timing(3, 1)
        good = [(0, 0, 0), (0, 0, 1), (0, 0, 9), (0, 1, 2), (0, 8, 9), (0, 3, 7)]
        for cut in good:
            self.assertIsNone(error_of(barred, timing, 0, 3, 9, cut))
            self.assertIsNone(error_of(barred, timing, 3, 0, 9, cut))
        bad = all_odd() + [(1, 2, 3), (0, 1, 10), (0, 10, 11), (0, 1, 0), (0, 9, 9), (0, 3, 3), (0, 4, 3), (1, 0, 0), (),
                           (0,), (0, 1), (0, 1, 2, 3), [0, 1, 2], (False, 1, 2), (0, True, 2), (0, 0, True), (0, -1, 2),
                           (0, 1, None), (0, "1", 2), (0, 1, (2,)), ((0, 1, 2),), "012", {0: 0, 1: 1, 2: 2}, 0,
                           (0, 10 ** 59, 10 ** 59 + 1), (0, 1, [2]), b"\x00\x01\x02", (None, 1, 2), (0, False, 2)]
        for cut in bad:
            self.assertEqual(error_of(barred, timing, 0, 3, 9, cut), ("NoCut", {}), cut)
            self.assertEqual(error_of(barred, timing, 3, 0, 9, cut), ("NoCut", {}), cut)
        for cut in ((), (1,), (0, 1), [0], (False,), 0):
            self.assertEqual(error_of(barred, timing, 1, 2, 9, cut), ("NoCut", {}))
        self.assertEqual(barred(timing, 1, 2, 0, (0,)), 0)
        self.assertEqual(error_of(barred, timing, 0, 2, 0, (0, 1)), ("NoCut", {}))


class Between(unittest.TestCase):
    def test_rows_by_hand(self):
        self.assertEqual(between(EXAMPLE, 0, 1), ((1,), (0,)))
        self.assertEqual(between(EXAMPLE, 0, 2), ((0,),))
        self.assertEqual(between(EXAMPLE, 1, 2), ((0, 1),))
        self.assertEqual(between(EXAMPLE, 1, 0), ((0, 0),))
        self.assertEqual(between(EXAMPLE, 2, 0), ((0,),))
        self.assertEqual(between(EXAMPLE, 2, 1), ((0,), (0,)))

    def test_rows_of_drawn_sheets(self):
        for sheet in row_sheets(821, 40, 6, 3, 3):
            posts = range(sheet.tree.posts)
            for one, other in two_posts(sheet.tree.posts):
                near = [post for post in posts if (post - one) * (other - one) <= 0]
                far = [post for post in posts if (post - other) * (other - one) >= 0]
                numbers = [number for post in near for number in numbers_at(sheet, post)]
                rows = [row for post in far for row in sheet.wants[post]]
                self.assertEqual(between(sheet, one, other), tuple(tuple(row[at] for at in numbers) for row in rows))

    def test_not_row_then_no_post(self):
        for tree in NOT_ROWS:
            sheet = Sheet(2, tree, (1,) * tree.posts, ((),) * tree.posts)
            for one, other in ((0, 1), (0, 0), (None, 1), (0, [])):
                self.assertEqual(error_of(between, sheet, one, other), ("NotRow", {}))
        for post in all_odd() + [3, -1, "0", (0,)]:
            self.assertEqual(error_of(between, EXAMPLE, post, 1), ("NoPost", {}))
            self.assertEqual(error_of(between, EXAMPLE, 1, post), ("NoPost", {}))
        for post in range(3):
            self.assertEqual(error_of(between, EXAMPLE, post, post), ("NoPost", {}))
        self.assertEqual(error_of(between, Sheet(2, Tree(()), (1,), ((),)), 0, 0), ("NoPost", {}))


def can_all(sheet, timing, tick):
    """Whether for each two posts the rank of what must be led is at most the load."""
    return all(rank_between(sheet, one, other) <= led(timing, one, other, tick)[-1]
               for one, other in two_posts(sheet.tree.posts))


def grown(p, known, offered, count):
    """All rooms that a post can come to know if it is sent so many of the rows offered."""
    found = {known}
    for _ in range(count):
        found |= {frozenset(room(p, len(row), [row] + sorted(one))) for one in found for row in offered}
    return found


def reachable(sheet, timing, ticks):
    """All that the posts can know together behind so many ticks, whatever is sent."""
    posts = range(sheet.tree.posts)
    start = tuple(frozenset(room(sheet.p, sheet.numbers, [units(sheet.numbers)[at] for at in numbers_at(sheet, post)]))
                  for post in posts)
    states = {start}
    for tick in range(ticks):
        further = set()
        for state in states:
            options = []
            for post in posts:
                rooms = {state[post]}
                for other in (post - 1, post + 1):
                    if other in posts:
                        count = spaces(timing, (other, post), tick + 1)[tick]
                        rooms = {after for one in rooms for after in grown(sheet.p, one, state[other], count)}
                # Who knows more can do all that one can who knows less.
                options.append([one for one in rooms if not any(one < other for other in rooms)])
            further |= set(product(*options))
        states = further
    return states


class CanBy(unittest.TestCase):
    def check(self, sheet, timing, ticks):
        for tick in ticks:
            good = can_all(sheet, timing, tick)
            self.assertIs(can_by(sheet, timing, tick), good)
            found = too_much(sheet, timing, tick)
            if good:
                self.assertIsNone(found)
                continue
            one, other, cut = found
            self.assertGreater(rank_between(sheet, one, other), barred(timing, one, other, tick, cut))
            self.assertIs(is_too_much(sheet, timing, tick, found), True)

    def test_own_ranks_and_own_loads(self):
        dice = Dice(831)
        for sheet in row_sheets(832, 60, 5, 3, 3):
            self.check(sheet, some_timing(dice, sheet.tree.posts - 1), range(0, 12))

    def test_ties_that_open_late(self):
        late = ((0,) * 40, (0,) * 39 + (1,))
        for sheet in row_sheets(833, 12, 4, 3, 3):
            ties = sheet.tree.posts - 1
            for timing in (Timing((late,) * ties, (ONCE,) * ties), Timing((ONCE,) * ties, (late,) * ties)):
                self.check(sheet, timing, (0, 5, 79, 80, 81, 120, 160, 200))

    def test_small_sheets_by_all_that_can_be_known(self):
        dice = Dice(834)
        some = [Sheet(p, row_tree(posts), holds, tuple(tuple(dice.row(p, sum(holds)) for _ in range(dice.below(3)))
                                                       for _ in range(posts)))
                for p, posts, holds in [(2, 2, (2, 1)), (2, 3, (1, 1, 1)), (2, 3, (2, 1, 0)), (2, 3, (0, 1, 2)),
                                        (3, 2, (1, 1)), (3, 3, (1, 0, 1)), (3, 2, (2, 1)), (3, 3, (1, 1, 1))] * 4]
        seen = []
        for sheet in some:
            timing = some_timing(dice, sheet.tree.posts - 1, 3)
            for ticks in range(4):
                found = any(all(row in known for known, rows in zip(state, sheet.wants) for row in rows)
                            for state in reachable(sheet, timing, ticks))
                self.assertIs(can_by(sheet, timing, ticks), found)
                seen.append(found)
        self.assertGreater(seen.count(True), 20)
        self.assertGreater(seen.count(False), 20)

    def test_least_tick_is_the_first_one(self):
        dice = Dice(835)
        found = []
        for sheet in row_sheets(836, 60, 5, 2, 2):
            timing = some_timing(dice, sheet.tree.posts - 1)
            tick = least_tick(sheet, timing)
            self.assertIs(can_all(sheet, timing, tick), True)
            self.assertFalse(tick > 0 and can_all(sheet, timing, tick - 1))
            found.append(tick)
        self.assertGreater(len(set(found)), 5)

    def test_none_where_a_tie_is_shut_for_ever(self):
        self.assertIsNone(least_tick(EXAMPLE, Timing((ONCE, SHUT), (ONCE, ONCE))))
        self.assertIsNone(least_tick(EXAMPLE, Timing((((0,) * 40, (0,)), ONCE), (ONCE, ONCE))))
        # Nothing is wanted from greater posts.
        self.assertEqual(least_tick(EXAMPLE, Timing((ONCE, ONCE), (SHUT, SHUT))), 1)
        back = Sheet(5, row_tree(3), (0, 0, 3), (((1, 0, 0), (0, 1, 0), (0, 0, 1)), (), ()))
        self.assertIsNone(least_tick(back, Timing((ONCE, ONCE), (((1, 1), (0,)), ONCE))))
        self.assertIsNone(least_tick(back, Timing((ONCE, ONCE), (ONCE, ((1, 1), (0,))))))
        self.assertEqual(least_tick(back, Timing((SHUT, SHUT), (ONCE, ONCE))), 4)

    def test_known_ticks_of_ties_that_open_rarely(self):
        # Each tie opens in tick 80, 120, 160 ..; the eighth number goes 7 openings behind the first one.
        rarely = ((0,) * 40, (0,) * 39 + (1,))
        rows = tuple(units(8))
        far = Sheet(2, row_tree(24), (8,) + (0,) * 23, ((),) * 22 + (rows, rows[:4]))
        self.assertEqual(least_tick(far, Timing((rarely,) * 23, (SHUT,) * 23)), 40 * (1 + 22 + 7))
        near = Sheet(2, row_tree(2), (8, 0), ((), rows))
        self.assertEqual(least_tick(near, Timing((rarely,), (SHUT,))), 40 * (1 + 1 + 7))

    def test_rows_of_one_and_of_many_posts(self):
        one = Sheet(7, Tree(()), (2,), (((1, 1), (0, 3)),))
        none = Timing((), ())
        self.assertIs(can_by(one, none, 0), True)
        self.assertIsNone(too_much(one, none, 5000))
        self.assertEqual(least_tick(one, none), 0)
        self.assertIs(is_too_much(one, none, 0, (0, 0, ())), False)
        dice = Dice(841)
        for sheet in [some_sheet(dice, 3, row_tree(posts), 3, 3) for posts in (10, 15)] + [great_sheet(), great_sheet(2)]:
            ties = sheet.tree.posts - 1
            timing = even_timing(ties, 1)
            tick = least_tick(sheet, timing)
            needs = [rank_between(sheet, one, other) + abs(one - other) - 1 for one, other in two_posts(ties + 1)
                     if rank_between(sheet, one, other)]
            self.assertEqual(tick, max(needs))
            self.assertIs(can_by(sheet, timing, tick), True)
            self.assertIs(can_by(sheet, timing, tick - 1), False)
            self.assertIs(is_too_much(sheet, timing, tick - 1, too_much(sheet, timing, tick - 1)), True)


class IsTooMuch(unittest.TestCase):
    def test_judged_by_the_words(self):
        dice = Dice(851)
        for sheet in row_sheets(852, 12, 4, 2, 3):
            timing = some_timing(dice, sheet.tree.posts - 1)
            for tick in (0, 1, 3):
                for one, other in two_posts(sheet.tree.posts):
                    need = rank_between(sheet, one, other)
                    for cut in all_cuts(abs(one - other), tick):
                        good = need > shut_places(timing, one, other, tick, cut)
                        self.assertIs(is_too_much(sheet, timing, tick, (one, other, cut)), good)

    def test_what_is_none(self):
        sheet = Sheet(5, row_tree(3), (2, 0, 0), ((), (), ((1, 0), (0, 1))))
        timing = even_timing(2, 1)
        self.assertIs(is_too_much(sheet, timing, 2, (0, 2, (0, 1))), True)
        bad = all_odd() + [(0, 2), (0, 2, (0, 1), 0), [0, 2, (0, 1)], (0, 2, [0, 1]), (0, 2, (1, 2)), (0, 2, (0, 3)),
                           (0, 2, (0,)), (0, 2, ()), (0, 3, (0, 1)), (0, 0, ()), (2, 2, (0, 1)), (2, 0, (0, 1)),
                           (False, 2, (0, 1)), (0, 2, (False, 1)), (0, 2, (0, True)), (0, True, (0,)), (0, 2, None),
                           (None, 2, (0, 1)), (0, None, (0, 1)), ("0", 2, (0, 1)), (-3, 2, (0, 1)), (0, -1, (0, 1)),
                           {0: 0, 1: 2, 2: (0, 1)}, ((0, 2, (0, 1)),), (0, 2, "01"), (0, (2,), (0, 1))]
        for thing in bad:
            self.assertIs(is_too_much(sheet, timing, 2, thing), False, thing)


class Errors(unittest.TestCase):
    def test_not_row_ahead_of_all_else(self):
        for tree in NOT_ROWS:
            sheet = Sheet(2, tree, (1,) * tree.posts, ((),) * tree.posts)
            for timing in (even_timing(tree.posts - 1, 1), None, Timing((), ())):
                self.assertEqual(error_of(can_by, sheet, timing, None), ("NotRow", {}))
                self.assertEqual(error_of(too_much, sheet, timing, None), ("NotRow", {}))
                self.assertEqual(error_of(is_too_much, sheet, timing, None, None), ("NotRow", {}))
                self.assertEqual(error_of(least_tick, sheet, timing), ("NotRow", {}))

    def test_timings_of_other_than_so_many_ties(self):
        bad = ("BadTiming", {"part": "right"})
        for timing in all_odd() + [even_timing(ties, 1) for ties in (0, 1, 3, 23)] + [((ONCE,) * 2, (ONCE,) * 2), 2]:
            self.assertEqual(error_of(can_by, EXAMPLE, timing, None), bad)
            self.assertEqual(error_of(can_by, EXAMPLE, timing, 1), bad)
            self.assertEqual(error_of(too_much, EXAMPLE, timing, None), bad)
            self.assertEqual(error_of(is_too_much, EXAMPLE, timing, None, None), bad)
            self.assertEqual(error_of(least_tick, EXAMPLE, timing), bad)

    def test_no_tick(self):
        timing = even_timing(2, 1)
        for tick in NO_TICKS:
            self.assertEqual(error_of(can_by, EXAMPLE, timing, tick), ("NoTick", {}))
            self.assertEqual(error_of(too_much, EXAMPLE, timing, tick), ("NoTick", {}))
            self.assertEqual(error_of(is_too_much, EXAMPLE, timing, tick, (0, 1, (0,))), ("NoTick", {}))
        self.assertIs(can_by(EXAMPLE, timing, 5000), True)
        self.assertIs(can_by(EXAMPLE, timing, 0), False)

    def test_what_is_passed_stays(self):
        timing = Timing((((1, 2), (0, 1)), ONCE), (ONCE, ((0, 0), (1,))))
        before = copy.deepcopy((timing.right, timing.left, EXAMPLE.wants))
        for call in (can_by, too_much):
            self.assertEqual(call(EXAMPLE, timing, 0), call(EXAMPLE, timing, 0))
        self.assertEqual(least_tick(EXAMPLE, timing), least_tick(EXAMPLE, timing))
        self.assertEqual(least_cut(timing, 0, 2, 9), least_cut(timing, 0, 2, 9))
        self.assertEqual((timing.right, timing.left, EXAMPLE.wants), before)


if __name__ == "__main__":
    unittest.main()
