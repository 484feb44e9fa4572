"""Timetables: which can be kept, what the posts know by them, and such that meet all wants by a tick."""

import unittest

from sametolls.clocks import ladder
from sametolls.loads import can_by, least_tick
from sametolls.openings import Timing, even_timing
from sametolls.sheets import Sheet
from sametolls.timetables import heard_at, is_kept, known, met, timetable
from sametolls.trees import Tree, ways
from tests.support import (EXAMPLE, Dice, all_odd, all_rows, dot, error_of, great_sheet, is_spanned, mix, nested,
                           numbers_at, row_sheets, row_tree, some_timing, spaces, star_tree, units)

SHUT = ((), (0,))
ONCE = ((), (1,))
EVEN = even_timing(2, 1)
GOOD = ((1, (0, 1), (1, 0, 0)), (1, (1, 2), (0, 1, 0)), (2, (1, 2), (2, 3, 0)))
NOT_ROWS = [star_tree(4), star_tree(3, 0), Tree(((0, 2), (1, 2))), Tree(((0, 1), (0, 2), (2, 3)))]


def rows_known(sheet, table, post, tick):
    """The rows of all that a post has of its own, or was sent up to a tick."""
    own = [units(sheet.numbers)[number] for number in numbers_at(sheet, post)]
    return own + [row for then, way, row in table if way[1] == post and then <= tick]


def own_kept(sheet, timing, table):
    """Whether a tuple of right sendings is ascending and can be kept, by the words of the document."""
    if list(table) != sorted(set(table)):
        return False
    for tick, way, row in table:
        many = len([one for one in table if one[:2] == (tick, way)])
        if many > spaces(timing, way, tick)[-1]:
            return False
        if not is_spanned(sheet.p, rows_known(sheet, table, way[0], tick - 1), row):
            return False
    return True


def own_met(sheet, table):
    """For each post the least tick behind which it knows the sums of all its wants."""
    found = []
    for post, rows in enumerate(sheet.wants):
        ticks = [0] + sorted({then for then, way, _ in table if way[1] == post})
        good = [tick for tick in ticks
                if all(is_spanned(sheet.p, rows_known(sheet, table, post, tick), row) for row in rows)]
        found.append(good[0] if good else None)
    return tuple(found)


def told(seed, count, most_posts=5, most=3):
    """Sheets, timings, ticks and what timetable tells; it is there by that tick, but not always by one less."""
    dice = Dice(seed)
    found = []
    for sheet in row_sheets(seed + 1, count, most_posts, most, most):
        timing = some_timing(dice, sheet.tree.posts - 1)
        tick = least_tick(sheet, timing) + dice.below(3) * dice.below(2)
        found.append((sheet, timing, tick, timetable(sheet, timing, tick)))
    return found


def changed(dice, sheet, table):
    """A table with one thing otherwise."""
    at = dice.below(len(table))
    tick, way, row = table[at]
    others = [one for one in ways(sheet.tree) if one != way]
    which = dice.below(7)
    new = [[], [(max(tick - 1 - dice.below(2), 1), way, row)], [(tick + 1 + dice.below(2), way, row)],
           [(tick, others[dice.below(len(others))], row)] if others else [],
           [(tick, way, dice.row(sheet.p, sheet.numbers))],
           [(tick, way, row), (tick, way, (0,) * sheet.numbers)],
           [(tick, way, row), (tick + 1, way, row)]][which]
    return tuple(sorted(list(table[:at]) + new + list(table[at + 1:])))


class Told(unittest.TestCase):
    def test_there_exactly_where_all_can_be_led(self):
        for sheet, timing, tick, table in told(861, 60):
            self.assertIs(own_kept(sheet, timing, table), True)
            self.assertIs(is_kept(sheet, timing, table), True)
            self.assertTrue(all(1 <= then <= tick for then, _, _ in table))
            for then in own_met(sheet, table):
                self.assertIsNotNone(then)
                self.assertLessEqual(then, tick)
            for other in range(tick + 2):
                self.assertIs(timetable(sheet, timing, other) is not None, can_by(sheet, timing, other))

    def test_wants_that_mix_what_comes_from_both_sides(self):
        dice = Dice(862)
        for _ in range(25):
            posts = 3 + dice.below(3)
            holds = tuple(1 + dice.below(2) for _ in range(posts))
            shared = [dice.row(3, sum(holds)) for _ in range(4)]
            wants = tuple(tuple(mix(3, sum(holds), dice.row(3, 4), shared) for _ in range(2)) for _ in range(posts))
            sheet = Sheet(3, row_tree(posts), holds, wants)
            timing = some_timing(dice, posts - 1)
            tick = least_tick(sheet, timing)
            table = timetable(sheet, timing, tick)
            self.assertIs(own_kept(sheet, timing, table), True)
            self.assertTrue(all(then <= tick for then in own_met(sheet, table)))

    def test_ties_that_open_late(self):
        late = ((0,) * 40, (0,) * 39 + (1,))
        for sheet in row_sheets(863, 12, 4, 3, 3):
            ties = sheet.tree.posts - 1
            for timing in (Timing((late,) * ties, (ONCE,) * ties), Timing((ONCE,) * ties, (late,) * ties)):
                tick = least_tick(sheet, timing)
                table = timetable(sheet, timing, tick)
                self.assertIs(own_kept(sheet, timing, table), True)
                self.assertTrue(all(then <= tick for then in own_met(sheet, table)))
                if tick:
                    self.assertIsNone(timetable(sheet, timing, tick - 1))

    def test_rows_of_one_and_of_24_posts(self):
        one = Sheet(7, Tree(()), (2,), (((1, 1), (0, 3)),))
        self.assertEqual(timetable(one, Timing((), ()), 0), ())
        self.assertEqual(timetable(one, Timing((), ()), 5000), ())
        for sheet in (great_sheet(), great_sheet(2)):
            timing = even_timing(23, 1)
            tick = least_tick(sheet, timing)
            table = timetable(sheet, timing, tick)
            self.assertIs(is_kept(sheet, timing, table), True)
            self.assertTrue(all(then <= tick for then in met(sheet, timing, table)))
            self.assertIsNone(timetable(sheet, timing, tick - 1))

    def test_the_last_tick(self):
        slow = ((0,) * 39 + (0,), (0,) * 39 + (1,))
        sheet = Sheet(2, row_tree(2), (8, 0), ((), tuple(units(8))))
        timing = Timing((slow,), (SHUT,))
        self.assertEqual([then for then, _, _ in timetable(sheet, timing, 5000)], list(range(80, 361, 40)))
        self.assertIsNone(timetable(sheet, Timing((SHUT,), (ONCE,)), 5000))
        self.assertIsNone(timetable(sheet, timing, 359))

    def test_the_example(self):
        self.assertEqual(met(EXAMPLE, EVEN, timetable(EXAMPLE, EVEN, 1)), (0, 1, 1))
        self.assertIsNone(timetable(EXAMPLE, EVEN, 0))


class IsKept(unittest.TestCase):
    def test_tables_with_one_thing_otherwise(self):
        dice = Dice(871)
        seen = []
        for sheet, timing, _, table in told(872, 40, 4):
            self.assertIs(is_kept(sheet, timing, table), True)
            for _ in range(30 if table else 0):
                other = changed(dice, sheet, table)
                seen.append(own_kept(sheet, timing, other))
                self.assertIs(is_kept(sheet, timing, other), seen[-1])
        self.assertGreater(seen.count(True), 100)
        self.assertGreater(seen.count(False), 100)

    def test_out_of_order_and_twice(self):
        for sheet, timing, _, table in told(873, 20, 4):
            if len(table) > 1:
                self.assertIs(is_kept(sheet, timing, table[1:] + table[:1]), False)
                self.assertIs(is_kept(sheet, timing, table[::-1]), False)
                self.assertIs(is_kept(sheet, timing, table[:1] + table), False)
                self.assertIs(is_kept(sheet, timing, table + table[-1:]), False)
                self.assertIs(is_kept(sheet, timing, list(table)), False)

    def test_what_is_heard_in_a_tick_goes_on_from_the_next_one(self):
        row = (1, 0, 0)
        self.assertIs(is_kept(EXAMPLE, EVEN, ((1, (0, 1), row), (2, (1, 2), row))), True)
        self.assertIs(is_kept(EXAMPLE, EVEN, ((1, (0, 1), row), (1, (1, 2), row))), False)
        self.assertIs(is_kept(EXAMPLE, EVEN, ((2, (0, 1), row), (2, (1, 2), row))), False)
        self.assertIs(is_kept(EXAMPLE, EVEN, ((2, (0, 1), row), (3, (1, 2), row), (4, (2, 1), row))), True)
        self.assertIs(is_kept(EXAMPLE, EVEN, ((1, (1, 2), row), (2, (0, 1), row))), False)

    def test_noughts_and_what_is_known_take_a_place(self):
        noughts = (1, (0, 1), (0, 0, 0))
        one = (1, (0, 1), (1, 0, 0))
        self.assertIs(is_kept(EXAMPLE, EVEN, (noughts,)), True)
        self.assertIs(is_kept(EXAMPLE, EVEN, (noughts, one)), False)
        self.assertIs(is_kept(EXAMPLE, even_timing(2, 2), (noughts, one)), True)
        self.assertIs(is_kept(EXAMPLE, even_timing(2, 2), (noughts, noughts)), False)
        self.assertIs(is_kept(EXAMPLE, EVEN, (one, (2, (0, 1), (1, 0, 0)), (2, (1, 0), (4, 0, 0)))), True)
        self.assertIs(is_kept(EXAMPLE, EVEN, (one, (2, (0, 1), (1, 0, 0)), (2, (0, 1), (2, 0, 0)))), False)
        self.assertIs(is_kept(EXAMPLE, Timing((SHUT, ONCE), (ONCE, ONCE)), (noughts,)), False)

    def test_the_last_tick(self):
        for tick, good in ((0, False), (1, True), (5000, True), (5001, False), (-1, False), (10 ** 59, False)):
            self.assertIs(is_kept(EXAMPLE, EVEN, ((tick, (0, 1), (1, 0, 0)),)), good)
        odd = Timing((((1,), (0, 1)), ONCE), (ONCE, ONCE))
        for tick in range(1, 12):
            self.assertIs(is_kept(EXAMPLE, odd, ((tick, (0, 1), (1, 0, 0)),)), tick % 2 == 1)

    def test_what_is_none(self):
        self.assertIs(is_kept(EXAMPLE, EVEN, ()), True)
        self.assertIs(is_kept(EXAMPLE, EVEN, GOOD), True)
        tick, way, row = GOOD[0]
        for thing in no_tables():
            self.assertIs(is_kept(EXAMPLE, EVEN, thing), False, thing)
        for one in all_odd() + [[0, 1], (True, 0), (0, 2), (0,), (0, 1, 2), (0, 0), (0, -1), "01"]:
            self.assertIs(is_kept(EXAMPLE, EVEN, ((tick, one, row),)), False)
            self.assertIs(is_kept(EXAMPLE, EVEN, ((one, way, row),)), False)
        for one in all_odd() + [[1, 0, 0], (1, 0), (1, 0, 0, 0), (5, 0, 0), (-1, 0, 0), (True, 0, 0), (1, 0, None), "100"]:
            self.assertIs(is_kept(EXAMPLE, EVEN, ((tick, way, one),)), False)


def no_tables():
    """Things that are no timetable, or cannot be kept."""
    tick, way, row = GOOD[0]
    found = [thing for thing in all_odd() if thing != ()]
    found += [list(GOOD), (list(GOOD[0]),), GOOD[0], ((tick, way),), ((tick, way, row, 0),), (way, tick, row), {0: GOOD[0]},
              ((True, way, row),), ((tick, list(way), row),), ((tick, way, list(row)),), GOOD[::-1], GOOD + GOOD[-1:],
              (GOOD[0], None), (None, GOOD[0]), GOOD[2:], ((1, (1, 2), (1, 0, 0)),), (nested("tuple", 9),) * 2]
    return found


class Knowing(unittest.TestCase):
    def test_known_and_met_by_an_own_stepping(self):
        dice = Dice(881)
        for sheet, timing, tick, table in told(882, 40, 5):
            for one in (table, table[:len(table) // 2], ()):
                if not own_kept(sheet, timing, one):
                    continue
                self.assertEqual(met(sheet, timing, one), own_met(sheet, one))
                for post in range(sheet.tree.posts):
                    for then in (0, 1, dice.below(tick + 1), tick, tick + 1, 5000):
                        rows = rows_known(sheet, one, post, then)
                        self.assertEqual(known(sheet, timing, one, post, then), ladder(sheet.p, sheet.numbers, rows))

    def test_met_is_none_where_a_post_never_knows(self):
        self.assertEqual(met(EXAMPLE, EVEN, ()), (0, None, None))
        self.assertEqual(met(EXAMPLE, EVEN, GOOD[:1]), (0, 1, None))
        self.assertEqual(met(EXAMPLE, EVEN, GOOD[1:2]), (0, None, 1))
        late = ((7, (0, 1), (1, 0, 0)), (8, (1, 2), (1, 1, 0)), (9, (1, 2), (4, 0, 0)), (9, (2, 1), (0, 0, 1)))
        self.assertEqual(met(EXAMPLE, EVEN, late), (0, 7, 9))
        # What is heard last is not always what was lacking.
        self.assertEqual(met(EXAMPLE, EVEN, GOOD[:2] + ((3, (0, 1), (2, 0, 0)),)), (0, 1, 1))

    def test_known_by_hand(self):
        self.assertEqual(known(EXAMPLE, EVEN, GOOD, 2, 0), ((0, 0, 1),))
        self.assertEqual(known(EXAMPLE, EVEN, GOOD, 2, 1), ((0, 1, 0), (0, 0, 1)))
        self.assertEqual(known(EXAMPLE, EVEN, GOOD, 2, 2), ((1, 0, 0), (0, 1, 0), (0, 0, 1)))
        self.assertEqual(known(EXAMPLE, EVEN, GOOD, 0, 5000), ((1, 0, 0),))
        nothing = Sheet(3, row_tree(2), (1, 0), ((), ()))
        self.assertEqual(known(nothing, even_timing(1, 1), (), 1, 0), ())

    def test_values_that_are_sent(self):
        dice = Dice(883)
        for sheet, timing, _, table in told(884, 20, 4):
            for _ in range(3):
                given = tuple(dice.below(sheet.p) for _ in range(sheet.numbers))
                values = tuple(dot(sheet.p, row, given) for _, _, row in table)
                self.assertEqual(heard_at(sheet, timing, table, given), values)
        self.assertEqual(heard_at(EXAMPLE, EVEN, GOOD, (1, 2, 3)), (1, 2, 3))
        for given in all_rows(5, 3):
            one, two, _ = given
            self.assertEqual(heard_at(EXAMPLE, EVEN, GOOD, given), (one, two, (2 * one + 3 * two) % 5))


class Errors(unittest.TestCase):
    def calls(self, sheet, timing, table):
        yield is_kept, (sheet, timing, table)
        yield known, (sheet, timing, table, None, None)
        yield known, (sheet, timing, table, 0, 0)
        yield met, (sheet, timing, table)
        yield heard_at, (sheet, timing, table, None)
        yield timetable, (sheet, timing, 1)
        yield timetable, (sheet, timing, None)

    def test_not_row_ahead_of_all_else(self):
        for tree in NOT_ROWS:
            sheet = Sheet(2, tree, (1,) * tree.posts, ((),) * tree.posts)
            for timing in (even_timing(tree.posts - 1, 1), None):
                for call, args in self.calls(sheet, timing, None):
                    self.assertEqual(error_of(call, *args), ("NotRow", {}))

    def test_timings_of_other_than_so_many_ties(self):
        for timing in all_odd() + [even_timing(ties, 1) for ties in (0, 1, 3, 23)]:
            for table in (None, GOOD, ()):
                for call, args in self.calls(EXAMPLE, timing, table):
                    self.assertEqual(error_of(call, *args), ("BadTiming", {"part": "right"}))

    def test_no_table_ahead_of_post_tick_and_given(self):
        for table in no_tables():
            for call, args in self.calls(EXAMPLE, EVEN, table):
                if call not in (is_kept, timetable):
                    self.assertEqual(error_of(call, *args), ("NoTable", {}))

    def test_no_post_then_no_tick(self):
        for post in all_odd() + [3, -1, "0", (0,), [0]]:
            self.assertEqual(error_of(known, EXAMPLE, EVEN, GOOD, post, 1), ("NoPost", {}))
            self.assertEqual(error_of(known, EXAMPLE, EVEN, GOOD, post, None), ("NoPost", {}))
        for tick in all_odd() + [-1, 5001, "1", (1,)]:
            self.assertEqual(error_of(known, EXAMPLE, EVEN, GOOD, 2, tick), ("NoTick", {}))
            self.assertEqual(error_of(timetable, EXAMPLE, EVEN, tick), ("NoTick", {}))
        self.assertIsNotNone(timetable(EXAMPLE, EVEN, 5000))

    def test_no_given(self):
        for given in all_odd() + [(1, 2), (1, 2, 3, 4), (1, 2, 5), (1, 2, -1), (1, 2, True), [1, 2, 3], "123", (1, 2, None)]:
            self.assertEqual(error_of(heard_at, EXAMPLE, EVEN, GOOD, given), ("NoGiven", {}))

    def test_equal_calls_give_equal_answers(self):
        for sheet, timing, tick, table in told(891, 10):
            self.assertEqual(timetable(sheet, timing, tick), table)
            self.assertIsInstance(table, tuple)


if __name__ == "__main__":
    unittest.main()
