"""Hours by which wants can be met, and ticks there and back."""

import unittest

from sametolls.hours import (hours_table, in_time, is_too_early, least_delay, overlap_ticks, ticks, too_early)
from sametolls.loads import least_tick
from sametolls.openings import even_timing
from sametolls.sheets import Sheet
from sametolls.timetables import is_kept, met
from sametolls.trees import Tree, ways
from sametolls.undoing import undone
from tests.support import (EXAMPLE, Dice, all_odd, error_of, great_sheet, invertible_rows, numbers_at, own_rank,
                           rank_between, row_sheets, row_tree, star_tree, units)

NO_BREADTHS = all_odd() + [0, 9, -1, "1", (1,), [1], {}]
NO_HOURS = all_odd() + [(), (1, 2), (1, 2, 3, 4), [1, 2, 3], (1, 2, 5001), (-1, 2, 3), (1, True, 3), (1, 2, None),
                        (1, "2", 3), (1, 2, (3,)), ((1, 2, 3),), "123", {0: 1, 1: 2, 2: 3}, 3, (1, 2, 10 ** 59),
                        (False, 2, 3), b"\x01\x02\x03"]
NOT_ROWS = [star_tree(4), star_tree(3, 0), Tree(((0, 2), (1, 2))), Tree(((0, 1), (0, 2), (2, 3)))]


def due_rank(sheet, hours, way, hour):
    """The rank of what must go over a way by a tick."""
    here, there = way
    posts = range(sheet.tree.posts)
    far = [post for post in posts if (post >= there if here < there else post <= there)]
    due = [post for post in far if hours[post] - len(range(min(post, there), max(post, there))) <= hour]
    near = [number for post in posts if post not in far for number in numbers_at(sheet, post)]
    return own_rank(sheet.p, [tuple(row[at] for at in near) for post in due for row in sheet.wants[post]])


def own_in_time(sheet, breadth, hours):
    """Whether for each way and each number, those below 0 too, no more is due than can be sent."""
    # Nothing more is due at hours beyond the last one, and the rank is 60 at most.
    return all(due_rank(sheet, hours, way, hour) <= max(hour, 0) * breadth
               for way in ways(sheet.tree) for hour in range(-sheet.tree.posts, min(max(hours), 60) + 1))


def some_hours(dice, posts, most):
    """Hours for posts, drawn."""
    return tuple(dice.below(most + 1) for _ in range(posts))


class Hours(unittest.TestCase):
    def check(self, sheet, breadth, hours):
        good = own_in_time(sheet, breadth, hours)
        self.assertIs(in_time(sheet, breadth, hours), good)
        found = too_early(sheet, breadth, hours)
        table = hours_table(sheet, breadth, hours)
        if good:
            self.assertIsNone(found)
            timing = even_timing(sheet.tree.posts - 1, breadth)
            self.assertIs(is_kept(sheet, timing, table), True)
            for then, hour in zip(met(sheet, timing, table), hours):
                self.assertLessEqual(then, hour)
        else:
            way, hour = found
            self.assertGreaterEqual(hour, 0)
            self.assertGreater(due_rank(sheet, hours, way, hour), hour * breadth)
            self.assertIs(is_too_early(sheet, breadth, hours, found), True)
            self.assertIsNone(table)
        return good

    def test_drawn_hours(self):
        dice = Dice(901)
        seen = []
        for sheet in row_sheets(902, 60, 5, 3, 3):
            for _ in range(6):
                seen.append(self.check(sheet, 1 + dice.below(3), some_hours(dice, sheet.tree.posts, 7)))
        self.assertGreater(seen.count(True), 50)
        self.assertGreater(seen.count(False), 50)

    def test_just_enough_and_one_too_few(self):
        dice = Dice(903)
        for sheet in row_sheets(904, 50, 6, 3, 3):
            for breadth in (1, 2, 8):
                hours = some_hours(dice, sheet.tree.posts, 4)
                delay = least_delay(sheet, breadth, hours)
                self.assertTrue(self.check(sheet, breadth, tuple(hour + delay for hour in hours)))
                if delay:
                    self.assertFalse(self.check(sheet, breadth, tuple(hour + delay - 1 for hour in hours)))

    def test_each_hour_as_early_as_it_can_be(self):
        dice = Dice(905)
        for sheet in row_sheets(906, 20, 5, 3, 3):
            hours = [30] * sheet.tree.posts
            for post in dice.mixed(range(sheet.tree.posts)):
                while hours[post] and own_in_time(sheet, 1, tuple(hours[:post] + [hours[post] - 1] + hours[post + 1:])):
                    hours[post] -= 1
            self.assertTrue(self.check(sheet, 1, tuple(hours)))

    def test_all_the_same_hour_is_the_least_tick(self):
        for sheet in row_sheets(907, 40, 5, 3, 3):
            for breadth in (1, 2, 3):
                tick = least_tick(sheet, even_timing(sheet.tree.posts - 1, breadth))
                self.assertEqual(least_delay(sheet, breadth, (0,) * sheet.tree.posts), tick)

    def test_far_hours_and_hundreds(self):
        dice = Dice(908)
        for sheet in row_sheets(909, 15, 5, 3, 3):
            posts = sheet.tree.posts
            for hours in ((5000,) * posts, some_hours(dice, posts, 500), (100 + dice.below(900),) * posts):
                good = all(due_rank(sheet, hours, way, hour) <= max(hour, 0) for way in ways(sheet.tree)
                           for hour in range(-posts, 60))
                self.assertIs(in_time(sheet, 1, hours), good)
                self.assertIs(hours_table(sheet, 1, hours) is not None, good)
            self.assertEqual(least_delay(sheet, 1, (5000,) * posts), 0)

    def test_hours_less_than_the_ties_between(self):
        far = Sheet(5, row_tree(4), (1, 0, 0, 0), ((), (), (), ((1,),)))
        for hour in range(5):
            self.assertEqual(self.check(far, 1, (0, 0, 0, hour)), hour >= 3)
            self.assertEqual(least_delay(far, 1, (0, 0, 0, hour)), max(3 - hour, 0))
        self.assertEqual(too_early(far, 8, (9, 9, 9, 1)), ((0, 1), 0))
        self.assertEqual(least_delay(far, 8, (0, 5000, 5000, 0)), 3)

    def test_least_delay_beyond_the_last_hour(self):
        sheet = Sheet(2, row_tree(2), (3, 0), ((), tuple(units(3))))
        self.assertEqual(least_delay(sheet, 1, (5000, 0)), 3)
        self.assertEqual(least_delay(sheet, 2, (5000, 0)), 2)
        self.assertEqual(least_delay(sheet, 3, (5000, 1)), 0)
        both = Sheet(2, row_tree(3), (3, 0, 1), (((0, 0, 0, 1),), tuple(row + (0,) for row in units(3)), ()))
        self.assertEqual(least_delay(both, 1, (5000, 1, 5000)), 2)
        self.assertEqual(least_delay(both, 1, (1, 4, 0)), 1)

    def test_rows_of_one_and_of_24_posts(self):
        one = Sheet(7, Tree(()), (2,), (((1, 1), (0, 3)),))
        self.assertTrue(self.check(one, 1, (0,)))
        self.assertEqual(least_delay(one, 8, (0,)), 0)
        for sheet, breadth in ((great_sheet(), 1), (great_sheet(2), 5)):
            delay = least_delay(sheet, breadth, (0,) * 24)
            self.assertTrue(self.check(sheet, breadth, (delay,) * 24))
            self.assertIs(in_time(sheet, breadth, (delay - 1,) * 24), False)

    def test_more_for_those_who_need_it_first(self):
        # Post 1 wants one number at once, post 2 two others; whoever sends these first is too late at post 1.
        sheet = Sheet(3, row_tree(3), (3, 0, 0), ((), ((1, 1, 1),), ((0, 1, 0), (0, 0, 1))))
        self.assertTrue(self.check(sheet, 1, (0, 1, 4)))
        self.assertTrue(self.check(sheet, 1, (0, 3, 3)))
        self.assertFalse(self.check(sheet, 1, (0, 1, 3)))
        self.assertFalse(self.check(sheet, 1, (0, 2, 3)))


class IsTooEarly(unittest.TestCase):
    def test_judged_by_the_words(self):
        dice = Dice(911)
        for sheet in row_sheets(912, 20, 4, 3, 3):
            hours = some_hours(dice, sheet.tree.posts, 5)
            for breadth in (1, 2):
                for way in ways(sheet.tree):
                    for hour in range(8):
                        good = due_rank(sheet, hours, way, hour) > hour * breadth
                        self.assertIs(is_too_early(sheet, breadth, hours, (way, hour)), good)

    def test_what_is_none(self):
        hours = (0, 0, 0)
        self.assertIs(is_too_early(EXAMPLE, 1, hours, ((0, 1), 0)), True)
        bad = all_odd() + [((0, 1), -1), ((0, 1), 1), ((1, 0), 0), ((0, 2), 0), ([0, 1], 0), [(0, 1), 0], ((0, 1), False),
                           ((0, 1), None), ((0, 1), "0"), ((0, 1), (0,)), ((0, 1),), ((0, 1), 0, 0), ((0, True), 0),
                           ((False, 1), 0), (0, (0, 1)), ((0, 1), [0]), {0: (0, 1), 1: 0}, ((0, 1), 10 ** 59),
                           (None, 0), ((2, 3), 0), ((0, 1, 2), 0)]
        for thing in bad:
            self.assertIs(is_too_early(EXAMPLE, 1, hours, thing), False, thing)


class Errors(unittest.TestCase):
    def test_the_order_of_errors(self):
        for call, more in ((in_time, ()), (too_early, ()), (is_too_early, (None,)), (hours_table, ()), (least_delay, ())):
            for tree in NOT_ROWS:
                sheet = Sheet(2, tree, (1,) * tree.posts, ((),) * tree.posts)
                for breadth, hours in ((1, (1,) * tree.posts), (None, None), (1, None)):
                    self.assertEqual(error_of(call, sheet, breadth, hours, *more), ("NotRow", {}))
            for breadth in NO_BREADTHS:
                self.assertEqual(error_of(call, EXAMPLE, breadth, (1, 1, 1), *more), ("NoNumber", {}))
                self.assertEqual(error_of(call, EXAMPLE, breadth, None, *more), ("NoNumber", {}))
            for hours in NO_HOURS:
                self.assertEqual(error_of(call, EXAMPLE, 1, hours, *more), ("NoHours", {}), hours)
            for breadth in (1, 8):
                self.assertIsNone(error_of(call, EXAMPLE, breadth, (0, 5000, 1), *more))
            self.assertEqual(error_of(call, Sheet(2, Tree(()), (1,), ((),)), 1, (), *more), ("NoHours", {}))

    def test_not_row_then_not_one(self):
        for call in (ticks, overlap_ticks):
            for tree in NOT_ROWS:
                for count in (1, 2):
                    sheet = Sheet(2, tree, (count,) * tree.posts, ((),) * tree.posts)
                    self.assertEqual(error_of(call, sheet), ("NotRow", {}))
            for holds, wants in (((2, 1), (1, 1)), ((1, 0), (1, 1)), ((1, 1), (2, 1)), ((1, 1), (1, 0)), ((2, 0), (1, 1)),
                                 ((1, 1), (0, 2)), ((0, 0), (0, 0)), ((1, 1), (0, 0)), ((2, 2), (2, 2))):
                sheet = Sheet(2, row_tree(2), holds, tuple(((0,) * sum(holds),) * count for count in wants))
                self.assertEqual(error_of(call, sheet), ("NotOne", {}))
            self.assertEqual(error_of(call, Sheet(2, Tree(()), (0,), ((),))), ("NotOne", {}))


def ones(seed, count, most_posts=7, clocks=(2, 3, 101)):
    """Sheets on rows in which each post holds one number and wants one sum; some of them can be undone."""
    dice = Dice(seed)
    found = [EXAMPLE, Sheet(3, Tree(()), (1,), (((2,),),))]
    for number in range(count):
        posts = 1 + dice.below(most_posts)
        p = clocks[dice.below(len(clocks))]
        rows = invertible_rows(dice, p, posts) if number % 2 else [dice.row(p, posts) for _ in range(posts)]
        found.append(Sheet(p, row_tree(posts), (1,) * posts, tuple((row,) for row in rows)))
    return found


def own_ticks(sheet):
    """The least tick by own ranks: so many numbers go so many ties, one in a tick."""
    posts = range(sheet.tree.posts)
    needs = [(rank_between(sheet, one, other), abs(one - other)) for one in posts for other in posts if one != other]
    return max([0] + [rank + ties - 1 for rank, ties in needs if rank])


def own_overlap(sheet):
    """The greatest rank that is more than how many posts stand between two, by the words of the document."""
    posts = range(sheet.tree.posts)
    found = [0]
    for one in posts:
        for other in posts[one + 1:]:
            behind = [post for post in posts if post > one]
            ahead = [post for post in posts if post < other]
            for wanters, holders in ((behind, ahead), (ahead, behind)):
                rank = own_rank(sheet.p, [tuple(sheet.wants[post][0][at] for at in holders) for post in wanters])
                if rank > len(set(behind) & set(ahead)):
                    found.append(rank)
    return max(found)


class ThereAndBack(unittest.TestCase):
    def test_ticks_by_own_ranks_and_never_more_than_the_ties(self):
        for sheet in ones(921, 80):
            self.assertEqual(ticks(sheet), own_ticks(sheet))
            self.assertEqual(ticks(sheet), least_tick(sheet, even_timing(sheet.tree.posts - 1, 1)))
            self.assertLessEqual(ticks(sheet), sheet.tree.posts - 1)

    def test_overlap_by_own_ranks(self):
        for sheet in ones(922, 80):
            self.assertEqual(overlap_ticks(sheet), own_overlap(sheet))

    def test_the_way_back(self):
        seen = []
        for sheet in ones(923, 120):
            if own_rank(sheet.p, [rows[0] for rows in sheet.wants]) == sheet.numbers:
                self.assertEqual(ticks(undone(sheet)), overlap_ticks(sheet))
                self.assertEqual(overlap_ticks(undone(sheet)), ticks(sheet))
                seen.append(overlap_ticks(sheet))
        self.assertGreater(len(set(seen)), 4)

    def test_known_ones(self):
        self.assertEqual((ticks(EXAMPLE), overlap_ticks(EXAMPLE)), (1, 2))
        self.assertEqual((ticks(undone(EXAMPLE)), overlap_ticks(undone(EXAMPLE))), (2, 1))
        for posts in (1, 2, 5, 24):
            rows = units(posts)
            turned = Sheet(7, row_tree(posts), (1,) * posts, tuple((row,) for row in rows[::-1]))
            staying = Sheet(7, row_tree(posts), (1,) * posts, tuple((row,) for row in rows))
            nothing = Sheet(7, row_tree(posts), (1,) * posts, (((0,) * posts,),) * posts)
            self.assertEqual((ticks(turned), overlap_ticks(turned)), (posts - 1, posts - 1))
            self.assertEqual((ticks(staying), overlap_ticks(staying)), (0, 0))
            self.assertEqual((ticks(nothing), overlap_ticks(nothing)), (0, 0))
        # Each post but the first one wants its own and its left one's number: one tick there, all ties back.
        for posts in (2, 6, 24):
            rows = [tuple(int(at in (post, post - 1)) for at in range(posts)) for post in range(posts)]
            sums = Sheet(2, row_tree(posts), (1,) * posts, tuple((row,) for row in rows))
            self.assertEqual((ticks(sums), overlap_ticks(sums)), (1, posts - 1))


if __name__ == "__main__":
    unittest.main()
