"""The examples of the document."""

import unittest

from sametolls.clocks import determinant, ladder, mixture, parting
from sametolls.givens import barring
from sametolls.hours import overlap_ticks, ticks
from sametolls.listeners import surely_learnt
from sametolls.loads import least_tick
from sametolls.openings import even_timing
from sametolls.orders import least_peak, least_sum
from sametolls.plans import first_wrong, least_plan
from sametolls.runs import wanted
from sametolls.sheets import Sheet, block
from sametolls.texts import sheet_text
from sametolls.tolls import tolls
from sametolls.trees import Tree, beyond, ways
from sametolls.undoing import undone

T = Tree(((0, 1), (1, 2)))
S = Sheet(5, T, (1, 1, 1), (((1, 0, 0),), ((1, 1, 0),), ((0, 1, 1),)))


class Examples(unittest.TestCase):
    def test_e01(self):
        self.assertEqual(ladder(5, 3, [(2, 4, 1), (1, 2, 0)]), ((1, 2, 0), (0, 0, 1)))
        self.assertEqual(determinant(5, ((1, 2), (3, 4))), 3)
        self.assertEqual(mixture(5, 2, [(1, 1), (0, 1)], (2, 0)), (2, 3))
        one, other = parting(5, 2, [(1, 1)], (1, 0))
        self.assertEqual(((one + other) % 5, one), (0, 1))

    def test_e02(self):
        self.assertEqual(beyond(T, (1, 0)), (0,))
        self.assertEqual(ways(T), [(0, 1), (1, 0), (1, 2), (2, 1)])

    def test_e03(self):
        self.assertEqual(tolls(S), {(0, 1): 1, (1, 0): 0, (1, 2): 1, (2, 1): 0})
        self.assertEqual(block(S, (1, 2)), ((0, 1),))

    def test_e04(self):
        self.assertIsNone(first_wrong(S, least_plan(S)))
        self.assertEqual(surely_learnt(S, ((0, 1), (1, 2))), ((1, 0, 0), (0, 1, 0)))

    def test_e05(self):
        self.assertEqual(wanted(S, (1, 2, 3)), ((1,), (3,), (0,)))
        self.assertEqual(undone(S).wants, (((1, 0, 0),), ((4, 1, 0),), ((1, 4, 1),)))

    def test_e06(self):
        table = {(0, 1): 1, (1, 0): 0, (1, 2): 2, (2, 1): 0}
        self.assertEqual(barring(T, (1, 0, 0), (0, 0, 1), table), (1, (1, 2)))

    def test_e07(self):
        self.assertEqual(least_tick(S, even_timing(2, 1)), 1)
        self.assertEqual(ticks(undone(S)), 2)
        self.assertEqual(overlap_ticks(S), 2)

    def test_e08(self):
        sheet = Sheet(2, Tree(((0, 1),)), (1, 0), ((), ((1,),)))
        self.assertEqual(sheet_text(sheet), "clock 2\ntie 0 1\npost 1\npost 0\nwant 1\n")

    def test_e09(self):
        self.assertEqual(least_peak(S)[0], 1)
        self.assertEqual(least_sum(S)[0], 2)


if __name__ == "__main__":
    unittest.main()
