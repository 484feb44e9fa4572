"""Timings, and how many numbers can be sent over ways in ticks."""

import unittest

from sametolls.openings import Timing, carried, even_timing, places
from tests.support import EXAMPLE, ROW_OF_THREE, Dice, all_odd, error_of, nested, opening_ticks

EVEN = ((), (1,))
SOME = ((1, 2), (0, 3, 5))
RIGHT = (SOME, EVEN)
LEFT = (((), (0,)), ((4,), (0, 1)))
TIMING = Timing(RIGHT, LEFT)
NO_TURNS = all_odd() + [[], [1], 1, "1", {}, {0: 1}, (9,), (1, 9), (-1,), (True,), (1, False), (None,), ("1",), ((1,),),
                        ([1],), (10 ** 59,), (1,) * 41, (1, 1, (1,))]
# The empty tuple is no round, but a begin.
NO_TURNS = [thing for thing in NO_TURNS if thing != ()]
NO_OPENINGS = all_odd() + [(), ((),), ((), (1,), ()), [(), (1,)], ((), ()), ((1,), ()), ((), [1]), ([], (1,)),
                           ((1,), None), (None, (1,)), {0: (), 1: (1,)}, ((), 1), (1, (1,)), ((), "1"), 1, (1, 1)]
NO_OPENINGS += [(thing, (1,)) for thing in NO_TURNS] + [((), thing) for thing in NO_TURNS]
# Pairs in pairs in pairs are two openings.
TWO_OPENINGS = nested("pair", 3)
NO_SIDES = [thing for thing in all_odd() if thing not in (TWO_OPENINGS, ())]
NO_WAYS = all_odd() + [(0, 2), (2, 0), (0, 0), (2, 2), (2, 3), (3, 2), (-1, 0), (0, -1), [0, 1], (True, 0), (0, True),
                       (False, 1), (1, False), (0, 1, 2), (), (0,), ((0, 1),), ("0", "1"), "01", (0, [1]), {}, 0, 1,
                       (0, 10 ** 59), (10 ** 59, 10 ** 59 + 1), {0: 1}, (1, None), (None, 1), ((0,), (1,))]
NO_TICKS = all_odd() + [-1, 10 ** 9 + 1, "1", (1,), [1], {}, ()]


def some_opening(dice):
    """An opening with a begin and a round of whatever lengths."""
    begin = tuple(dice.below(9) for _ in range(dice.below(41) if dice.below(3) else 0))
    return begin, tuple(dice.below(9) for _ in range(1 + dice.below(40)))


class Bad(unittest.TestCase):
    def bad(self, part, right, left):
        self.assertEqual(error_of(Timing, right, left), ("BadTiming", {"part": part}))

    def test_right_comes_first(self):
        for right in NO_SIDES + [[], list(RIGHT), {}, 2, "right", (None,), ((),), RIGHT[0], (EVEN,) * 24]:
            self.bad("right", right, LEFT)
            self.bad("right", right, None)

    def test_left(self):
        for left in NO_SIDES + [[], list(LEFT), {}, 2, (), (EVEN,), (EVEN,) * 3, (EVEN,) * 24, (EVEN, None), (None, EVEN)]:
            self.bad("left", RIGHT, left)
        for left in NO_SIDES + [TWO_OPENINGS, (EVEN,), [], {}]:
            self.bad("left", (), left)
        self.assertEqual(Timing(RIGHT, TWO_OPENINGS).left, TWO_OPENINGS)

    def test_no_openings(self):
        for thing in NO_OPENINGS:
            self.bad("right", (thing, EVEN), LEFT)
            self.bad("right", (EVEN, thing), (thing, thing))
            self.bad("left", RIGHT, (thing, EVEN))
            self.bad("left", RIGHT, (EVEN, thing))

    def test_forty_turns_and_forty_one(self):
        for begin, turns in ((0, 1), (40, 40), (39, 1), (0, 40)):
            opening = (8,) * begin, (0,) * turns
            self.assertEqual(Timing((opening,), (opening,)).right, (opening,))
        for begin, turns in ((41, 1), (0, 41), (0, 0), (40, 0)):
            opening = (8,) * begin, (0,) * turns
            self.bad("right", (opening,), (EVEN,))
            self.bad("left", (EVEN,), (opening,))

    def test_eight_places_and_nine(self):
        for value in range(11):
            for opening in (((value,), (1,)), ((), (0, value))):
                if value <= 8:
                    self.assertEqual(Timing((EVEN,), (opening,)).left, (opening,))
                else:
                    self.bad("right", (opening,), (EVEN,))
                    self.bad("left", (EVEN,), (opening,))

    def test_twenty_three_ties_and_twenty_four(self):
        self.assertEqual(len(Timing((EVEN,) * 23, (SOME,) * 23).right), 23)
        self.bad("right", (EVEN,) * 24, (EVEN,) * 24)


class Kept(unittest.TestCase):
    def test_attributes(self):
        self.assertEqual((TIMING.right, TIMING.left), (RIGHT, LEFT))
        none = Timing((), ())
        self.assertEqual((none.right, none.left), ((), ()))

    def test_equal_just_if_both_are(self):
        self.assertIs(TIMING == Timing((SOME, EVEN), (((), (0,)), ((4,), (0, 1)))), True)
        self.assertIs(TIMING != Timing(RIGHT, LEFT), False)
        for other in (Timing(LEFT, RIGHT), Timing(RIGHT, RIGHT), Timing(LEFT, LEFT), Timing(RIGHT[:1], LEFT[:1]),
                      Timing(RIGHT, LEFT[::-1]), Timing((), ())):
            self.assertIs(TIMING == other, False)
            self.assertIs(TIMING != other, True)
        # Two openings that carry the same are still unlike.
        self.assertIs(Timing((EVEN,), (EVEN,)) == Timing((((1,), (1,)),), (EVEN,)), False)

    def test_equal_to_no_other_kind(self):
        for thing in all_odd() + [RIGHT, (RIGHT, LEFT), EXAMPLE, ROW_OF_THREE]:
            self.assertIs(TIMING == thing, False)
            self.assertIs(TIMING != thing, True)


class Even(unittest.TestCase):
    def test_the_same_in_each_tick_both_ways(self):
        for ties in (0, 1, 2, 23):
            for breadth in range(1, 9):
                timing = even_timing(ties, breadth)
                self.assertIsInstance(timing, Timing)
                self.assertEqual((len(timing.right), len(timing.left)), (ties, ties))
                self.assertEqual(timing, even_timing(ties, breadth))
                for tie in range(ties):
                    for way in ((tie, tie + 1), (tie + 1, tie)):
                        for tick in (1, 2, 3, 41, 10 ** 9):
                            self.assertEqual(places(timing, way, tick), breadth)
                            self.assertEqual(carried(timing, way, tick), breadth * tick)

    def test_no_number_for_ties_then_for_breadth(self):
        for ties in all_odd() + [24, 25, -1, "1", (1,), [1], {}]:
            self.assertEqual(error_of(even_timing, ties, 1), ("NoNumber", {}))
            self.assertEqual(error_of(even_timing, ties, None), ("NoNumber", {}))
        for breadth in all_odd() + [0, 9, 10, -1, "1", (1,), [1], {}]:
            for ties in (0, 2, 23):
                self.assertEqual(error_of(even_timing, ties, breadth), ("NoNumber", {}))


class Ticks(unittest.TestCase):
    def test_tick_by_tick(self):
        dice = Dice(611)
        for _ in range(40):
            ties = 1 + dice.below(5)
            right = tuple(some_opening(dice) for _ in range(ties))
            left = tuple(some_opening(dice) for _ in range(ties))
            timing = Timing(right, left)
            for tie in range(ties):
                for way, opening in (((tie, tie + 1), right[tie]), ((tie + 1, tie), left[tie])):
                    turns = opening_ticks(opening, 150)
                    for tick in range(1, 151):
                        self.assertEqual(places(timing, way, tick), turns[tick - 1])
                        self.assertEqual(carried(timing, way, tick), sum(turns[:tick]))

    def test_far_ticks_by_whole_rounds(self):
        dice = Dice(612)
        for _ in range(60):
            begin, turns = some_opening(dice)
            timing = Timing(((begin, turns),), (EVEN,))
            for tick in [10 ** 9, 10 ** 9 - 1] + [1000 + dice.below(10 ** 9 - 1000) for _ in range(5)]:
                # As many rounds are left out as leave few ticks behind begin.
                rounds = (tick - 100) // len(turns)
                near = tick - rounds * len(turns)
                ticks = opening_ticks((begin, turns), near)
                self.assertEqual(places(timing, (0, 1), tick), ticks[-1])
                self.assertEqual(carried(timing, (0, 1), tick), sum(ticks) + rounds * sum(turns))

    def test_known_ones(self):
        self.assertEqual([places(TIMING, (0, 1), tick) for tick in range(10)], [0, 1, 2, 0, 3, 5, 0, 3, 5, 0])
        self.assertEqual([carried(TIMING, (0, 1), tick) for tick in range(10)], [0, 1, 3, 3, 6, 11, 11, 14, 19, 19])
        self.assertEqual([places(TIMING, (1, 0), tick) for tick in range(3)], [0, 0, 0])
        self.assertEqual([places(TIMING, (2, 1), tick) for tick in range(5)], [0, 4, 0, 1, 0])
        self.assertEqual([places(TIMING, (1, 2), tick) for tick in range(3)], [0, 1, 1])
        self.assertEqual(carried(TIMING, (2, 1), 10 ** 9), 4 + (10 ** 9 - 1) // 2)
        self.assertEqual(carried(TIMING, (1, 0), 10 ** 9), 0)
        self.assertEqual(places(TIMING, (0, 1), 10 ** 9), (0, 3, 5)[(10 ** 9 - 3) % 3])

    def test_nothing_in_tick_nought(self):
        for way in ((0, 1), (1, 0), (1, 2), (2, 1)):
            self.assertEqual((places(TIMING, way, 0), carried(TIMING, way, 0)), (0, 0))

    def test_no_way_then_no_tick(self):
        for call in (places, carried):
            for way in NO_WAYS:
                self.assertEqual(error_of(call, TIMING, way, 1), ("NoWay", {}), way)
                self.assertEqual(error_of(call, TIMING, way, None), ("NoWay", {}), way)
            for tick in NO_TICKS:
                self.assertEqual(error_of(call, TIMING, (0, 1), tick), ("NoTick", {}))
                self.assertEqual(error_of(call, TIMING, (2, 1), tick), ("NoTick", {}))
            self.assertEqual(error_of(call, TIMING, (0, 1), 10 ** 9), None)
            for way in ((0, 1), (0, 0), (1, 0)):
                self.assertEqual(error_of(call, Timing((), ()), way, 1), ("NoWay", {}))


if __name__ == "__main__":
    unittest.main()
