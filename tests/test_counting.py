"""How many sheets there are, and how many of each tolls."""

import unittest
from itertools import product

from sametolls.givens import sheets_in_all, tolls_in_all
from sametolls.sheets import Sheet
from sametolls.tolls import tolls
from sametolls.trees import Tree
from tests.support import ROW_OF_THREE, all_odd, all_rows, dealt, error_of, row_tree, star_tree

PAIR = Tree(((0, 1),))
NO_CLOCKS = all_odd() + [0, 1, 4, 1000003, "5", (5,), [5]]
NO_COUNTS = all_odd() + [(), (1,), (1, 1, 1), [2, 1], (2, -1), (-1, 2), (9, 0), (0, 9), (2, True), (False, 1),
                         (2, None), (2, "1"), (2, (1,)), ("2", 1), 3, {0: 2, 1: 1}, (2, [1]), (10 ** 59, 1), "21"]
NO_NUMBERS = all_odd() + [61, 62, -1, 10 ** 59, "1", (1,), [1], {}]


def counted(p, holds, wants):
    """How many sheets have each pair of tolls, by going through all."""
    found = {}
    for rows in product(all_rows(p, sum(holds)), repeat=sum(wants)):
        least = tolls(Sheet(p, PAIR, holds, dealt(wants, rows)))
        pair = least[0, 1], least[1, 0]
        found[pair] = found.get(pair, 0) + 1
    return found


class TollsInAll(unittest.TestCase):
    def test_against_all_sheets_gone_through(self):
        cases = [(2, (1, 1), (1, 1)), (2, (2, 1), (1, 1)), (2, (2, 1), (1, 2)), (2, (1, 1), (2, 2)),
                 (2, (2, 0), (0, 2)), (2, (2, 0), (2, 2)), (2, (0, 3), (3, 0)), (2, (0, 2), (1, 2)), (2, (3, 0), (1, 3)),
                 (3, (1, 1), (1, 1)), (3, (1, 1), (1, 2)), (3, (2, 0), (0, 2)), (3, (2, 1), (1, 1)), (3, (1, 0), (2, 3)),
                 (2, (0, 0), (2, 1)), (2, (2, 1), (0, 0)), (3, (0, 0), (0, 0)), (5, (1, 0), (1, 1)), (7, (1, 1), (0, 1))]
        for p, holds, wants in cases:
            found = counted(p, holds, wants)
            for there in range(5):
                for back in range(5):
                    number = tolls_in_all(p, holds, wants, there, back)
                    self.assertIs(type(number), int)
                    self.assertEqual(number, found.get((there, back), 0), (p, holds, wants, there, back))

    def test_all_tolls_together(self):
        for p in (2, 3, 101, 999983):
            for holds, wants in (((8, 8), (8, 8)), ((8, 0), (0, 8)), ((3, 8), (7, 2)), ((0, 8), (8, 5)), ((0, 0), (0, 0)),
                                 ((1, 2), (3, 4)), ((8, 8), (0, 0))):
                total = sum(tolls_in_all(p, holds, wants, there, back) for there in range(9) for back in range(9))
                self.assertEqual(total, sheets_in_all(p, PAIR, holds, wants))

    def test_known_ones(self):
        self.assertEqual(tolls_in_all(2, (2, 0), (0, 2), 2, 0), 6)
        self.assertEqual(tolls_in_all(2, (2, 0), (0, 2), 1, 0), 9)
        self.assertEqual(tolls_in_all(3, (1, 1), (1, 1), 1, 0), 18)
        self.assertEqual(tolls_in_all(999983, (1, 0), (0, 1), 1, 0), 999982)

    def test_both_directions_mean_something(self):
        self.assertEqual(tolls_in_all(2, (2, 0), (0, 3), 2, 0), 42)
        self.assertEqual(tolls_in_all(2, (2, 0), (0, 3), 0, 2), 0)
        self.assertEqual(tolls_in_all(2, (0, 2), (3, 0), 0, 2), 42)
        self.assertEqual(tolls_in_all(2, (0, 2), (3, 0), 2, 0), 0)

    def test_tolls_that_are_too_great(self):
        for there, back in ((3, 0), (60, 0), (0, 60), (60, 60), (0, 2)):
            self.assertEqual(tolls_in_all(5, (2, 1), (1, 2), there, back), 0)

    def test_errors_in_their_order(self):
        for p in NO_CLOCKS:
            self.assertEqual(error_of(tolls_in_all, p, None, None, None, None), ("NoClock", {}))
            self.assertEqual(error_of(tolls_in_all, p, (1, 1), (1, 1), 0, 0), ("NoClock", {}))
        for counts in NO_COUNTS:
            self.assertEqual(error_of(tolls_in_all, 2, counts, (1, 1), None, None), ("NoCounts", {}))
            self.assertEqual(error_of(tolls_in_all, 2, (1, 1), counts, None, 0), ("NoCounts", {}))
            self.assertEqual(error_of(tolls_in_all, 2, (1, 1), counts, 0, 0), ("NoCounts", {}))
        for number in NO_NUMBERS:
            self.assertEqual(error_of(tolls_in_all, 2, (1, 1), (1, 1), number, 0), ("NoNumber", {}))
            self.assertEqual(error_of(tolls_in_all, 2, (1, 1), (1, 1), 0, number), ("NoNumber", {}))
            self.assertEqual(error_of(tolls_in_all, 2, (1, 1), (1, 1), 61, number), ("NoNumber", {}))


class SheetsInAll(unittest.TestCase):
    def test_against_all_sheets_gone_through(self):
        for p, holds, wants in ((2, (1, 1), (1, 1)), (2, (2, 1), (1, 2)), (3, (1, 1), (1, 1)), (2, (0, 0), (1, 1))):
            self.assertEqual(sheets_in_all(p, PAIR, holds, wants), sum(counted(p, holds, wants).values()))

    def test_known_ones(self):
        self.assertEqual(sheets_in_all(2, Tree(()), (2,), (2,)), 16)
        self.assertEqual(sheets_in_all(3, ROW_OF_THREE, (1, 1, 1), (1, 0, 1)), 729)
        self.assertEqual(sheets_in_all(101, ROW_OF_THREE, (0, 0, 0), (3, 3, 3)), 1)
        self.assertEqual(sheets_in_all(101, ROW_OF_THREE, (3, 3, 3), (0, 0, 0)), 1)
        self.assertEqual(sheets_in_all(999983, star_tree(3), (2, 0, 1), (0, 1, 1)), 999983 ** 6)

    def test_sixty_numbers_and_sixty_wants(self):
        counts = (8,) * 7 + (4,)
        for p in (2, 999983):
            self.assertEqual(sheets_in_all(p, row_tree(8), counts, counts[::-1]), p ** 3600)

    def test_errors_in_their_order(self):
        for p in NO_CLOCKS:
            self.assertEqual(error_of(sheets_in_all, p, PAIR, None, None), ("NoClock", {}))
            self.assertEqual(error_of(sheets_in_all, p, PAIR, (1, 1), (1, 1)), ("NoClock", {}))
        for counts in NO_COUNTS:
            self.assertEqual(error_of(sheets_in_all, 2, PAIR, counts, (1, 1)), ("NoCounts", {}))
            self.assertEqual(error_of(sheets_in_all, 2, PAIR, (1, 1), counts), ("NoCounts", {}))
            self.assertEqual(error_of(sheets_in_all, 2, PAIR, counts, counts), ("NoCounts", {}))


if __name__ == "__main__":
    unittest.main()
