"""Clocks, ladders, mixtures, partings, squares and determinants."""

import copy
import unittest
from itertools import combinations, permutations

from sametolls.clocks import determinant, is_clock, ladder, mixture, parting, rank, square
from tests.support import Dice, add, all_odd, all_rows, dot, mix, nested, room, times, units

GREAT = 999983


def rooms(p, wide, most):
    """All lists of up to so many rows."""
    rows = all_rows(p, wide)
    found = [[]]
    lists = [[]]
    for _ in range(most):
        lists = [ahead + [row] for ahead in lists for row in rows]
        found += lists
    return found


SMALL = ([(2, 3, rows) for rows in rooms(2, 3, 3)] + [(3, 2, rows) for rows in rooms(3, 2, 3)]
         + [(5, 2, rows) for rows in rooms(5, 2, 2)] + [(2, 1, rows) for rows in rooms(2, 1, 4)]
         + [(3, 0, rows) for rows in rooms(3, 0, 3)])


def some_rows(seed, p, wide, many, span=None):
    """Many rows, all mixtures of only so many if a span is told."""
    dice = Dice(seed)
    heads = [dice.row(p, wide) for _ in range(many if span is None else span)]
    if span is None:
        return heads
    return [mix(p, wide, [dice.below(p) for _ in heads], heads) for _ in range(many)]


def firsts(rows):
    """The places of the first values that are not 0."""
    return [next(place for place, value in enumerate(row) if value) for row in rows]


class Clocks(unittest.TestCase):
    def test_against_a_sieve(self):
        prime = [False, False] + [True] * 4999
        for factor in range(2, 5001):
            for product in range(2 * factor, 5001, factor):
                prime[product] = False
        self.assertEqual([is_clock(number) for number in range(5001)], prime)

    def test_the_least_and_the_greatest(self):
        self.assertIs(is_clock(2), True)
        self.assertIs(is_clock(999983), True)
        self.assertEqual([number for number in range(999950, 1000050) if is_clock(number)],
                         [999953, 999959, 999961, 999979, 999983])

    def test_no_clocks(self):
        for thing in (0, 1, -1, -2, -7, 4, 9, 25, 997 * 997, 2 * 499979, 991 * 997, 999999, 10 ** 6, 1000003,
                      10 ** 9 + 7, 10 ** 59 + 19, 2 ** 61 - 1):
            self.assertIs(is_clock(thing), False, thing)

    def test_products_of_two_great_primes(self):
        for factor in (2, 3, 5, 7, 31, 499, 977, 983, 991, 997):
            self.assertIs(is_clock(factor * factor), False)
            self.assertIs(is_clock(factor * 997), False)

    def test_odd_things(self):
        for thing in all_odd() + ["5", [5], (5,), {5: 5}, b"\x05"]:
            self.assertIs(is_clock(thing), False)


class Ladders(unittest.TestCase):
    def check_form(self, p, wide, rows):
        self.assertIsInstance(rows, tuple)
        for row in rows:
            self.assertIsInstance(row, tuple)
            self.assertEqual(len(row), wide)
            self.assertTrue(all(0 <= value < p for value in row))
        places = firsts(rows)
        self.assertEqual(places, sorted(set(places)))
        for place, row in zip(places, rows):
            self.assertEqual(row[place], 1)
            self.assertEqual([other[place] for other in rows if other != row], [0] * (len(rows) - 1))

    def test_form_and_room_on_small_clocks(self):
        for p, wide, rows in SMALL:
            found = ladder(p, wide, rows)
            self.check_form(p, wide, found)
            self.assertEqual(room(p, wide, found), room(p, wide, rows))
            self.assertEqual(rank(p, wide, rows), len(found))
            self.assertEqual(p ** len(found), len(room(p, wide, rows)))

    def test_the_same_for_other_rows_of_the_room(self):
        for p, wide, rows in SMALL[::3]:
            found = ladder(p, wide, rows)
            self.assertEqual(ladder(p, wide, found), found)
            for order in permutations(rows):
                self.assertEqual(ladder(p, wide, list(order)), found)
            self.assertEqual(ladder(p, wide, [times(p, p - 1, row) for row in rows]), found)
            if len(rows) > 1:
                self.assertEqual(ladder(p, wide, [add(p, rows[0], rows[1])] + rows[1:]), found)

    def test_great_clocks(self):
        for p in (2, 7, 999979, GREAT):
            rows = some_rows(p, p, 9, 6)
            found = ladder(p, 9, rows)
            self.check_form(p, 9, found)
            self.assertEqual(ladder(p, 9, list(reversed(rows))), found)
            self.assertEqual(ladder(p, 9, rows + [mix(p, 9, [3, 1, p - 1], rows)]), found)
            for row in rows:
                self.assertEqual(mix(p, 9, [row[place] for place in firsts(found)], found), row)
            for row in found:
                self.assertIsNotNone(mixture(p, 9, rows, row))

    def test_known_ones(self):
        self.assertEqual(ladder(5, 3, [(2, 4, 1), (1, 2, 0)]), ((1, 2, 0), (0, 0, 1)))
        self.assertEqual(ladder(GREAT, 2, [(2, 1)]), ((1, 499992),))
        self.assertEqual(ladder(2, 4, [(0, 1, 1, 0), (0, 1, 0, 1), (1, 1, 1, 1)]),
                         ((1, 0, 0, 1), (0, 1, 0, 1), (0, 0, 1, 1)))
        self.assertEqual(ladder(3, 2, [(0, 2), (2, 0)]), ((1, 0), (0, 1)))

    def test_none_and_noughts(self):
        for rows in ([], (), [(0, 0)], [(0, 0)] * 200):
            self.assertEqual(ladder(7, 2, rows), ())
            self.assertEqual(rank(7, 2, rows), 0)
        for rows in ([], [()], ((),) * 200):
            self.assertEqual(ladder(7, 0, rows), ())
            self.assertEqual(rank(7, 0, rows), 0)

    def test_lists_and_tuples_of_rows(self):
        rows = some_rows(3, 7, 5, 4)
        self.assertEqual(ladder(7, 5, rows), ladder(7, 5, tuple(rows)))
        self.assertEqual(rank(7, 5, rows), rank(7, 5, tuple(rows)))
        self.assertEqual(square(7, 5, rows), square(7, 5, tuple(rows)))

    def test_rank_of_mixtures(self):
        for p in (2, 3, GREAT):
            for span in range(6):
                heads = [unit[:4] + (p - 1,) + unit[4:] + (1,) for unit in units(6)[:span]]
                dice = Dice(span + p)
                rows = heads + [mix(p, 8, [dice.below(p) for _ in heads], heads) for _ in range(9)]
                self.assertEqual(rank(p, 8, dice.mixed(rows)), span)

    def test_two_hundred_rows_of_two_hundred(self):
        p = GREAT
        self.assertEqual(ladder(p, 200, list(reversed(units(200)))), tuple(units(200)))
        heads = [(1,) * (place + 1) + (0,) * (199 - place) for place in range(200)]
        self.assertEqual(rank(p, 200, heads), 200)
        low = some_rows(5, p, 200, 200, 7)
        self.assertEqual(rank(p, 200, low), 7)
        self.check_form(p, 200, ladder(p, 200, low))
        full = [tuple(value + 1 if place == number else value for place, value in enumerate(row))
                for number, row in enumerate(low)]
        full = [tuple(value % p for value in row) for row in full]
        self.assertGreaterEqual(rank(p, 200, full), 193)


class MixturesAndPartings(unittest.TestCase):
    def check(self, p, wide, rows, row):
        mixed = mixture(p, wide, rows, row)
        parts = parting(p, wide, rows, row)
        self.assertEqual(mixed is None, parts is not None)
        if mixed is not None:
            self.check_values(p, mixed, len(rows))
            self.assertEqual(mix(p, wide, mixed, rows), row)
        else:
            self.check_values(p, parts, wide)
            self.assertEqual([dot(p, parts, other) for other in rows], [0] * len(rows))
            self.assertEqual(dot(p, parts, row), 1)
        return mixed is not None

    def check_values(self, p, values, many):
        self.assertIsInstance(values, tuple)
        self.assertEqual(len(values), many)
        self.assertTrue(all(isinstance(value, int) and 0 <= value < p for value in values))

    def test_just_one_on_small_clocks(self):
        for p, wide, rows in SMALL[::2]:
            spanned = room(p, wide, rows)
            for row in all_rows(p, wide):
                self.assertEqual(self.check(p, wide, rows, row), row in spanned)

    def test_great_clocks(self):
        for p in (2, 999979, GREAT):
            dice = Dice(p)
            for span in (0, 1, 4, 6):
                rows = some_rows(span, p, 7, 9, span)
                for _ in range(4):
                    self.assertTrue(self.check(p, 7, rows, mix(p, 7, [dice.below(p) for _ in rows], rows)))
                    self.check(p, 7, rows, dice.row(p, 7))
                self.assertFalse(self.check(p, 8, [row + (0,) for row in rows], (0,) * 7 + (p - 1,)))

    def test_no_rows_and_noughts(self):
        self.assertEqual(mixture(5, 2, [], (0, 0)), ())
        self.assertIsNone(parting(5, 2, [], (0, 0)))
        self.assertIsNone(mixture(5, 2, (), (0, 3)))
        self.assertTrue(self.check(5, 2, [(0, 0)], (0, 0)))
        self.assertFalse(self.check(5, 2, [(0, 0)] * 3, (4, 0)))
        self.assertEqual(mixture(5, 0, [], ()), ())
        self.assertTrue(self.check(5, 0, [(), ()], ()))

    def test_examples(self):
        self.assertEqual(mixture(5, 2, [(1, 1), (0, 1)], (2, 0)), (2, 3))
        self.assertEqual(dot(5, parting(5, 2, [(1, 1)], (1, 0)), (1, 1)), 0)

    def test_two_hundred_rows_of_two_hundred(self):
        rows = some_rows(8, GREAT, 200, 200, 5)
        self.assertTrue(self.check(GREAT, 200, rows, add(GREAT, rows[3], rows[190])))
        self.assertFalse(self.check(GREAT, 200, tuple(rows), (0,) * 199 + (1,)))
        self.assertTrue(self.check(GREAT, 200, units(200), tuple(range(200))))


class Squares(unittest.TestCase):
    def test_least_lot_and_first_places_on_small_clocks(self):
        for p, wide, rows in SMALL:
            lot, places = square(p, wide, rows)
            spanned = len(room(p, wide, rows))
            many = rank(p, wide, rows)
            least = min(some for some in combinations(range(len(rows)), many)
                        if len(room(p, wide, [rows[number] for number in some])) == spanned)
            self.assertEqual(lot, least)
            self.assertEqual(places, tuple(firsts(ladder(p, wide, rows))))
            self.assertIsInstance(lot, tuple)
            self.assertNotEqual(determinant(p, [tuple(rows[number][place] for place in places) for number in lot]), 0)

    def test_great_clocks(self):
        for p in (2, 999979, GREAT):
            rows = some_rows(p, p, 9, 12, 5)
            lot, places = square(p, 9, rows)
            self.assertEqual(len(lot), rank(p, 9, rows))
            for end in range(13):
                self.assertEqual(rank(p, 9, rows[:end]), len([number for number in lot if number < end]))
            self.assertEqual(places, tuple(firsts(ladder(p, 9, rows))))
            self.assertNotEqual(determinant(p, [tuple(rows[number][place] for place in places) for number in lot]), 0)

    def test_known_ones(self):
        self.assertEqual(square(5, 3, [(0, 0, 0), (0, 2, 4), (0, 1, 2), (3, 0, 0)]), ((1, 3), (0, 1)))
        self.assertEqual(square(5, 3, []), ((), ()))
        self.assertEqual(square(5, 0, [(), ()]), ((), ()))
        self.assertEqual(square(GREAT, 200, list(reversed(units(200)))), (tuple(range(200)), tuple(range(200))))


class Determinants(unittest.TestCase):
    def test_none_one_and_two(self):
        for p in (2, 3, 5, GREAT):
            self.assertEqual(determinant(p, ()), 1)
            self.assertEqual(determinant(p, []), 1)
            self.assertEqual([determinant(p, [(value,)]) for value in range(min(p, 9))], list(range(min(p, 9))))
        for p in (2, 3, 5):
            for a, b, c, d in all_rows(p, 4):
                self.assertEqual(determinant(p, ((a, b), (c, d))), (a * d - b * c) % p)
        self.assertEqual(determinant(5, ((1, 2), (3, 4))), 3)

    def by_orders(self, p, rows):
        total = 0
        for order in permutations(range(len(rows))):
            turns = len([1 for one, other in combinations(order, 2) if one > other])
            product = (-1) ** turns
            for row, place in zip(rows, order):
                product *= row[place]
            total += product
        return total % p

    def test_against_all_orders(self):
        for seed in range(60):
            p = (2, 3, 7, GREAT)[seed % 4]
            wide = 3 + seed % 3
            rows = some_rows(seed, p, wide, wide)
            self.assertEqual(determinant(p, rows), self.by_orders(p, rows))

    def test_exchanges_and_products(self):
        for p in (3, 101, GREAT):
            one = some_rows(p, p, 6, 6)
            one = [add(p, row, unit) for row, unit in zip(one, units(6))]
            other = [add(p, row, times(p, 2, unit)) for row, unit in zip(some_rows(p + 1, p, 6, 6), units(6))]
            product = [mix(p, 6, row, other) for row in one]
            self.assertEqual(determinant(p, product), determinant(p, one) * determinant(p, other) % p)
            for first, second in combinations(range(6), 2):
                turned = list(one)
                turned[first], turned[second] = one[second], one[first]
                self.assertEqual(determinant(p, turned), -determinant(p, one) % p)
            self.assertEqual(determinant(p, [times(p, 2, one[0])] + one[1:]), 2 * determinant(p, one) % p)
            self.assertEqual(determinant(p, one[:5] + [one[0]]), 0)

    def test_great_ones_known_by_hand(self):
        p = GREAT
        for wide in (7, 59, 60):
            rows = [tuple(pow(base, power, p) for power in range(wide)) for base in range(wide)]
            product = 1
            for low, high in combinations(range(wide), 2):
                product = product * (high - low) % p
            self.assertEqual(determinant(p, rows), product)
            self.assertEqual(determinant(p, list(reversed(units(wide)))), (-1) ** (wide * (wide - 1) // 2) % p)
            triangle = [(0,) * number + (number + 1,) + (5,) * (wide - number - 1) for number in range(wide)]
            factorial = 1
            for number in range(wide):
                factorial = factorial * (number + 1) % p
            self.assertEqual(determinant(p, triangle), factorial)
            self.assertEqual(determinant(p, [(1,) * wide] * wide), 0)


class Passed(unittest.TestCase):
    def test_what_is_passed_stays(self):
        rows = some_rows(1, 7, 4, 4)
        kept = copy.deepcopy(rows)
        for call in (ladder, rank, square):
            call(7, 4, rows)
        for call in (mixture, parting):
            call(7, 4, rows, (1, 2, 3, 4))
        determinant(7, rows)
        self.assertEqual(rows, kept)

    def test_equal_calls_give_equal_answers(self):
        rows = some_rows(2, 7, 4, 6)
        for call in (ladder, square):
            self.assertEqual(call(7, 4, rows), call(7, 4, tuple(rows)))
        for row in some_rows(3, 7, 4, 9):
            self.assertEqual(mixture(7, 4, rows, row), mixture(7, 4, tuple(rows), row))
            self.assertEqual(parting(7, 4, rows[:2], row), parting(7, 4, tuple(rows[:2]), row))

    def test_nested_is_so_deep(self):
        self.assertEqual(nested("list", 2), [[0]])


if __name__ == "__main__":
    unittest.main()
