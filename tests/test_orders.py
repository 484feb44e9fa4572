"""Orders of the posts in a row, the least tolls that a row can have, and floors."""

import copy
import unittest
from itertools import combinations, permutations

from sametolls.clocks import rank
from sametolls.orders import cut_tolls, floors, in_row, is_floors, least_peak, least_sum
from sametolls.sheets import Sheet
from sametolls.tolls import tolls
from sametolls.trees import Tree
from tests.support import (EXAMPLE, ROW_OF_THREE, Dice, all_odd, all_wanted, dealt, error_of, flat, great_sheet,
                           numbers_at, row_tree, some_sheets, star_tree, undoable_sheets)

ONE = Sheet(5, Tree(()), (2,), (((1, 4),),))
# Posts 0 and 3 want each other's numbers, and so do 1 and 2: a row does best with both pairs side by side.
PAIRS = Sheet(3, row_tree(4), (1, 1, 1, 1), (((0, 0, 0, 1),), ((0, 0, 1, 0),), ((0, 1, 0, 0),), ((1, 0, 0, 0),)))
NO_ORDERS = all_odd() + [(), (0,), (0, 1), (0, 1, 1), (0, 1, 3), (1, 2, 3), (0, 1, 2, 0), (0, 1, 2, 3), [0, 1, 2],
                         (0, 0, 0), (-1, 0, 1), (0, True, 2), (False, 1, 2), (0, 1, None), (0, 1, "2"), "012", 3,
                         {0: 0, 1: 1, 2: 2}, (0, 1, (2,)), ((0,), (1,), (2,)), (0, 1, [2]), (0, 1, 10 ** 59), {},
                         b"\x00\x01\x02"]
NO_LOTS = all_odd() + [[], [0], {}, {0: 0}, (1, 0), (0, 0), (3,), (0, 3), (-1,), (-1, 0), (True,), (0, True), (False,),
                       (None,), ("0",), "0", 0, ((0,),), (0, (1,)), ([0],), (0, 1, 2, 3), (2, 1, 0), (10 ** 59,), b"\x00"]
# The empty tuple is a lot.
NO_LOTS = [thing for thing in NO_LOTS if thing != ()]


def small_sheets(seed, count, most=4):
    """Sheets of few posts on all clocks, some of them with many wants."""
    return some_sheets(seed, count, most, 2, 2) + some_sheets(seed + 1, count // 2, most, 3, 4) + [ONE, PAIRS]


def lots_of(sheet):
    """All lots of posts."""
    posts = range(sheet.tree.posts)
    return [lot for many in range(sheet.tree.posts + 1) for lot in combinations(posts, many)]


def plain_cut_tolls(sheet, lot):
    """What cut_tolls is to tell, by the clocks alone."""
    others = [post for post in range(sheet.tree.posts) if post not in lot]
    found = []
    for holders, wanters in ((lot, others), (others, lot)):
        numbers = flat(numbers_at(sheet, post) for post in holders)
        rows = [tuple(row[number] for number in numbers) for post in wanters for row in sheet.wants[post]]
        found.append(rank(sheet.p, len(numbers), rows))
    return tuple(found)


def row_tolls(sheet, order):
    """All tolls of the row of an order."""
    return [toll for cut in range(1, len(order)) for toll in plain_cut_tolls(sheet, tuple(sorted(order[:cut])))]


class InRow(unittest.TestCase):
    def test_each_post_wants_the_same_of_the_same(self):
        dice = Dice(551)
        for sheet in some_sheets(552, 60, 7, 3, 3) + [great_sheet(), great_sheet(2, star_tree(24, 3))]:
            order = tuple(dice.mixed(range(sheet.tree.posts)))
            found = in_row(sheet, order)
            self.assertIsInstance(found, Sheet)
            self.assertEqual((found.p, found.tree), (sheet.p, row_tree(sheet.tree.posts)))
            self.assertEqual(found.holds, tuple(sheet.holds[post] for post in order))
            for _ in range(3):
                given = dice.row(sheet.p, sheet.numbers)
                held = dealt(sheet.holds, given)
                answers = all_wanted(sheet, given)
                called_anew = tuple(flat(held[post] for post in order))
                self.assertEqual(all_wanted(found, called_anew), tuple(answers[post] for post in order))

    def test_known_ones(self):
        self.assertEqual(in_row(EXAMPLE, (2, 0, 1)),
                         Sheet(5, ROW_OF_THREE, (1, 1, 1), (((1, 0, 1),), ((0, 1, 0),), ((0, 1, 1),))))
        sheet = Sheet(5, star_tree(3), (2, 0, 1), (((1, 2, 3),), (), ((4, 0, 1), (0, 1, 2))))
        self.assertEqual(in_row(sheet, (1, 2, 0)),
                         Sheet(5, ROW_OF_THREE, (0, 1, 2), ((), ((1, 4, 0), (2, 0, 1)), ((3, 1, 2),))))
        self.assertEqual(in_row(sheet, (0, 1, 2)), Sheet(5, ROW_OF_THREE, sheet.holds, sheet.wants))
        self.assertEqual(in_row(ONE, (0,)), ONE)

    def test_orders_one_behind_the_other(self):
        for sheet in undoable_sheets(553, 10):
            order = tuple(reversed(range(sheet.tree.posts)))
            turned = in_row(sheet, order)
            self.assertEqual(in_row(turned, order), in_row(sheet, order[::-1]))

    def test_no_order(self):
        for thing in NO_ORDERS:
            self.assertEqual(error_of(in_row, EXAMPLE, thing), ("NoOrder", {}), thing)
        for thing in ((), (1,), (0, 0), (0, 1), [0], 0, None, (True,), (False,)):
            self.assertEqual(error_of(in_row, ONE, thing), ("NoOrder", {}))


class CutTolls(unittest.TestCase):
    def test_ranks_of_both_directions(self):
        for sheet in small_sheets(554, 40):
            for lot in lots_of(sheet):
                self.assertEqual(cut_tolls(sheet, lot), plain_cut_tolls(sheet, lot))

    def test_they_are_the_tolls_of_ties(self):
        dice = Dice(555)
        for sheet in some_sheets(556, 30, 6, 2, 2) + [great_sheet(7)]:
            order = tuple(dice.mixed(range(sheet.tree.posts)))
            least = tolls(in_row(sheet, order))
            for cut in range(1, len(order)):
                found = cut_tolls(sheet, tuple(sorted(order[:cut])))
                self.assertIsInstance(found, tuple)
                self.assertEqual(found, (least[cut - 1, cut], least[cut, cut - 1]))

    def test_known_ones(self):
        self.assertEqual(cut_tolls(EXAMPLE, (0,)), (1, 0))
        self.assertEqual(cut_tolls(EXAMPLE, (1,)), (1, 1))
        self.assertEqual(cut_tolls(EXAMPLE, (1, 2)), (0, 1))
        self.assertEqual(cut_tolls(EXAMPLE, ()), (0, 0))
        self.assertEqual(cut_tolls(EXAMPLE, (0, 1, 2)), (0, 0))
        self.assertEqual(cut_tolls(ONE, (0,)), (0, 0))

    def test_no_lot(self):
        for thing in NO_LOTS:
            self.assertEqual(error_of(cut_tolls, EXAMPLE, thing), ("NoLot", {}), thing)

    def test_on_any_number_of_posts(self):
        self.assertEqual(cut_tolls(great_sheet(7), tuple(range(24))), (0, 0))
        self.assertEqual(in_row(great_sheet(7), tuple(range(24))), great_sheet(7))


class Least(unittest.TestCase):
    def check(self, sheet):
        found = [row_tolls(sheet, order) for order in permutations(range(sheet.tree.posts))]
        for call, worth in ((least_peak, lambda row: max(row, default=0)), (least_sum, sum)):
            told = call(sheet)
            self.assertIsInstance(told, tuple)
            number, order = told
            self.assertIs(type(number), int)
            self.assertIsInstance(order, tuple)
            self.assertEqual(number, min(worth(row) for row in found))
            self.assertEqual(sorted(order), list(range(sheet.tree.posts)))
            self.assertEqual(worth(row_tolls(sheet, order)), number)

    def test_against_all_orders(self):
        for sheet in small_sheets(557, 40):
            self.check(sheet)

    def test_against_all_orders_of_five_and_six_posts(self):
        dice = Dice(558)
        for posts in (5, 5, 6):
            wants = tuple(tuple(dice.row(2, posts) for _ in range(dice.below(3))) for _ in range(posts))
            self.check(Sheet(2, star_tree(posts), (1,) * posts, wants))

    def test_known_ones(self):
        self.assertEqual((least_peak(EXAMPLE)[0], least_sum(EXAMPLE)[0]), (1, 2))
        self.assertEqual((least_peak(ONE), least_sum(ONE)), ((0, (0,)), (0, (0,))))
        self.assertEqual((least_peak(PAIRS)[0], least_sum(PAIRS)[0]), (1, 4))
        self.assertEqual(set(least_sum(PAIRS)[1][:2]) in ({0, 3}, {1, 2}), True)
        nothing = Sheet(5, ROW_OF_THREE, (0, 0, 0), ((), (), ()))
        self.assertEqual((least_peak(nothing)[0], least_sum(nothing)[0]), (0, 0))

    def test_the_peak_and_the_sum_of_unlike_orders(self):
        unlike = 0
        for sheet in some_sheets(559, 150, 5, 2, 2, (2,)):
            peak, order = least_peak(sheet)
            unlike += sum(row_tolls(sheet, order)) > least_sum(sheet)[0]
        self.assertGreater(unlike, 5)

    def test_both_directions_count(self):
        # All want the numbers of post 1 and 2, and these want those of the other one.
        sheet = Sheet(5, ROW_OF_THREE, (0, 1, 2), (((1, 0, 0),), ((0, 1, 0), (0, 0, 1)), ((1, 0, 0),)))
        self.check(sheet)
        self.assertEqual((least_peak(sheet)[0], least_sum(sheet)[0]), (2, 4))

    def test_ten_posts_and_eleven(self):
        for posts in (10, 11, 24):
            tree = row_tree(posts)
            row = (0,) * posts
            wants = tuple((row[:post] + (1,) + row[post + 1:],) for post in range(1, posts)) + ((),)
            sheet = Sheet(2, tree, (1,) * posts, wants)
            for call in (least_peak, least_sum, floors):
                self.assertEqual(error_of(call, sheet), None if posts == 10 else ("TooMany", {"most": 10}))
            for thing in all_odd()[:20] + [{}]:
                found = error_of(is_floors, sheet, 0, thing)
                self.assertEqual(found, None if posts == 10 else ("TooMany", {"most": 10}))
            if posts == 10:
                self.assertEqual((least_peak(sheet)[0], least_sum(sheet)[0]), (1, 9))
                self.assertIs(is_floors(sheet, 9, floors(sheet)), True)

    def test_ten_posts_with_sixty_numbers(self):
        dice = Dice(560)
        sheet = Sheet(999983, row_tree(10), (6,) * 10, tuple(tuple(dice.row(999983, 60) for _ in range(6))
                                                             for _ in range(10)))
        peak, order = least_peak(sheet)
        self.assertEqual(max(row_tolls(sheet, order)), peak)
        self.assertLessEqual(peak, max(row_tolls(sheet, tuple(range(10)))))


class Floors(unittest.TestCase):
    def are_floors(self, sheet, number, thing):
        """Whether a dict of integers from just all lots is floors, by what the document says."""
        every = tuple(range(sheet.tree.posts))
        if thing[()] > 0 or thing[every] < number:
            return False
        for lot in thing:
            for post in lot:
                if thing[lot] > thing[tuple(x for x in lot if x != post)] + sum(plain_cut_tolls(sheet, lot)):
                    return False
        return True

    def test_floors_for_the_least_sum_and_none_for_more(self):
        for sheet in small_sheets(561, 30):
            found = floors(sheet)
            number = least_sum(sheet)[0]
            self.assertIsInstance(found, dict)
            self.assertEqual(sorted(found), sorted(lots_of(sheet)))
            self.assertTrue(all(type(value) is int for value in found.values()))
            self.assertTrue(self.are_floors(sheet, number, found))
            for other, right in ((number, True), (number - 1, True), (-5, True), (0, True), (number + 1, False)):
                self.assertIs(is_floors(sheet, other, found), right)

    def test_one_value_otherwise(self):
        dice = Dice(562)
        told = {True: 0, False: 0}
        for sheet in small_sheets(563, 16, 3):
            number = least_sum(sheet)[0]
            for lot in lots_of(sheet):
                for more in (-3, -1, 1, 2):
                    thing = floors(sheet)
                    thing[lot] += more
                    for due in (number, number - dice.below(4)):
                        right = self.are_floors(sheet, due, thing)
                        told[right] += 1
                        self.assertIs(is_floors(sheet, due, thing), right)
        self.assertGreater(min(told.values()), 50)

    def test_floors_that_are_less_everywhere(self):
        for sheet in small_sheets(564, 10):
            less = {lot: value - 7 for lot, value in floors(sheet).items()}
            number = least_sum(sheet)[0]
            self.assertIs(is_floors(sheet, number - 7, less), True)
            self.assertIs(is_floors(sheet, number - 6, less), False)
            self.assertIs(is_floors(sheet, -(10 ** 59), less), True)
            self.assertIs(is_floors(sheet, 10 ** 59, less), False)

    def test_the_empty_lot_has_no_more_than_nought(self):
        thing = floors(EXAMPLE)
        for value, right in ((0, True), (1, False)):
            thing[()] = value
            self.assertIs(is_floors(EXAMPLE, 2, thing), right)

    def test_lots_lacking_more_others(self):
        for lot in lots_of(EXAMPLE):
            thing = floors(EXAMPLE)
            del thing[lot]
            self.assertIs(is_floors(EXAMPLE, -9, thing), False)
            for other in ((3,), (0, 3), (1, 0), (0, 0), "0", None, 0, (2, 1, 0), (0, (1,)), ((),), Tree, -1, b"0"):
                self.assertIs(is_floors(EXAMPLE, -9, {**thing, other: 0}), False)
                self.assertIs(is_floors(EXAMPLE, -9, {**floors(EXAMPLE), other: 0}), False)

    def test_values_that_are_no_integers(self):
        for lot in lots_of(EXAMPLE):
            for value in all_odd() + [(0,), [0], {}, "0"]:
                if type(value) is not int:
                    self.assertIs(is_floors(EXAMPLE, -9, {**floors(EXAMPLE), lot: value}), False)
            self.assertIs(is_floors(EXAMPLE, -9, {**floors(EXAMPLE), lot: -9}), self.are_floors(
                EXAMPLE, -9, {**floors(EXAMPLE), lot: -9}))

    def test_no_dict_of_all_lots(self):
        found = floors(EXAMPLE)
        for thing in all_odd() + [{}, [], (), list(found.items()), tuple(found.items()), list(found), floors(PAIRS),
                                  floors(ONE), 2, (found,), [found]]:
            self.assertIs(is_floors(EXAMPLE, -9, thing), False)

    def test_a_single_post(self):
        self.assertEqual(is_floors(ONE, 0, {(): 0, (0,): 0}), True)
        self.assertEqual(is_floors(ONE, 1, {(): 0, (0,): 1}), False)
        self.assertEqual(is_floors(ONE, 0, {(): -1, (0,): -1}), False)
        self.assertEqual(is_floors(ONE, -1, {(): -1, (0,): -1}), True)

    def test_new_each_time_and_what_is_passed_stays(self):
        sheet = copy.deepcopy(PAIRS)
        one, other = floors(sheet), floors(sheet)
        self.assertEqual(one, other)
        self.assertIsNot(one, other)
        is_floors(sheet, 3, one)
        self.assertEqual((one, sheet), (other, PAIRS))


if __name__ == "__main__":
    unittest.main()
