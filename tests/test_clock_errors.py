"""The errors of clocks and rows, each where it is due, and in their order."""

import unittest

from sametolls.clocks import determinant, ladder, mixture, parting, rank, square
from tests.support import all_odd, deep_things, error_of, odd_things

WIDE = (ladder, rank, square)
WITH_ROW = (mixture, parting)
NO_CLOCKS = all_odd() + [0, 1, 4, 1000000, 1000003, "5", (5,), [5]]
NO_WIDES = all_odd() + [-1, 201, 10 ** 59, "2", (2,), [2]]
NO_ROWS = odd_things() + [{}, {0: (1, 2)}, {(1, 2): 0}, 0, 2, -1]
BAD_ROWS = all_odd() + [0, 5, (), [], {}, (1,), (1, 2, 3), [1, 2], (1, 5), (5, 1), (-1, 0), (0, -1), (1, True),
                        (False, 1), (1, None), (1, "2"), "12", b"\x01\x02", ((1, 2),), ((1,), (2,)), (1, 10 ** 59),
                        {0: 1, 1: 2}, (1, (2,)), ((), ()), range(2), (0, [0])]


def calls(p, wide, rows, row=(1, 2)):
    """The errors of each call that takes a length."""
    found = [error_of(call, p, wide, rows) for call in WIDE]
    return found + [error_of(call, p, wide, rows, row) for call in WITH_ROW]


class Errors(unittest.TestCase):
    def all_are(self, found, name, fields):
        for error in found:
            self.assertEqual(error, (name, fields))

    def test_right_calls_raise_none(self):
        for rows in ([], (), [(1, 2)], ((0, 4), (4, 0)), [(0, 0)] * 200):
            self.assertEqual(calls(5, 2, rows), [None] * 5)
        self.assertEqual(calls(2, 200, [(1,) * 200] * 200, (0,) * 200), [None] * 5)
        self.assertEqual(calls(999983, 0, [()], ()), [None] * 5)
        self.assertIsNone(error_of(determinant, 2, [(1,) * 60] * 60))

    def test_no_clock(self):
        for p in NO_CLOCKS:
            self.all_are(calls(p, 2, [(0, 1)]), "NoClock", {})
            self.all_are(calls(p, -1, None, None), "NoClock", {})
            self.assertEqual(error_of(determinant, p, [(1,)]), ("NoClock", {}))
            self.assertEqual(error_of(determinant, p, None), ("NoClock", {}))

    def test_no_number(self):
        for wide in NO_WIDES:
            self.all_are(calls(5, wide, []), "NoNumber", {})
            self.all_are(calls(5, wide, None, None), "NoNumber", {})
            self.all_are(calls(5, wide, [(7,), None], None), "NoNumber", {})

    def test_no_list_or_tuple_of_rows(self):
        for rows in NO_ROWS + [[(1, 2)] * 201, ((1, 2),) * 201, [None] * 201]:
            self.all_are(calls(5, 2, rows), "NoRows", {"index": -1})
            self.all_are(calls(5, 2, rows, None), "NoRows", {"index": -1})
        for rows in NO_ROWS + [[(0,) * 61] * 61, ((1, 2),) * 61, [None] * 61]:
            self.assertEqual(error_of(determinant, 5, rows), ("NoRows", {"index": -1}))

    def test_the_first_that_is_no_row(self):
        for bad in BAD_ROWS:
            self.all_are(calls(5, 2, [bad]), "NoRows", {"index": 0})
            self.all_are(calls(5, 2, ((1, 2), (0, 0), bad, (3, 4)), None), "NoRows", {"index": 2})
            self.all_are(calls(5, 2, [(1, 2), bad, bad, None]), "NoRows", {"index": 1})
            self.all_are(calls(5, 2, [(0, 1)] * 199 + [bad]), "NoRows", {"index": 199})
            self.assertEqual(error_of(determinant, 5, [(1, 2), bad]), ("NoRows", {"index": 1}))
            self.assertEqual(error_of(determinant, 5, (bad, None)), ("NoRows", {"index": 0}))

    def test_rows_are_judged_by_the_clock_and_the_length(self):
        self.all_are(calls(2, 2, [(1, 1), (1, 2)]), "NoRows", {"index": 1})
        self.all_are(calls(3, 1, [(1,), (1, 2)], (1,)), "NoRows", {"index": 1})
        self.all_are(calls(3, 0, [(), (), (0,)], ()), "NoRows", {"index": 2})
        self.assertEqual(error_of(determinant, 2, [(1, 1), (2, 0)]), ("NoRows", {"index": 1}))
        self.assertEqual(error_of(determinant, 2, [(1, 1), (1, 0), (1, 1, 0)]), ("NoRows", {"index": 0}))
        self.assertEqual(error_of(determinant, 2, [(1,), (1,)]), ("NoRows", {"index": 0}))
        self.assertEqual(error_of(determinant, 2, [()]), ("NoRows", {"index": 0}))

    def test_things_nested_deep_as_rows(self):
        for thing in deep_things():
            if isinstance(thing, (list, tuple)) and len(thing) <= 60:
                for error in calls(5, 2, thing) + [error_of(determinant, 5, thing)]:
                    self.assertEqual(error, ("NoRows", {"index": 0}))

    def test_no_row(self):
        for bad in BAD_ROWS:
            for call in WITH_ROW:
                self.assertEqual(error_of(call, 5, 2, [(1, 2)], bad), ("NoRow", {}))
                self.assertEqual(error_of(call, 5, 2, (), bad), ("NoRow", {}))

    def test_a_row_of_noughts_wide_of_nought(self):
        for call in WITH_ROW:
            self.assertEqual(error_of(call, 5, 0, [], (0,)), ("NoRow", {}))
            self.assertEqual(error_of(call, 5, 0, [], []), ("NoRow", {}))


if __name__ == "__main__":
    unittest.main()
