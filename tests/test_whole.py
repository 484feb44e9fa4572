"""What holds over the whole program: one sheet through all doors, sheets known by hand, equal calls."""

import copy
import unittest

from sametolls.batches import best_pace, least_pace, pacing
from sametolls.desks import Desk
from sametolls.givens import barring, made_sheet
from sametolls.hours import hours_table, least_delay, overlap_ticks, ticks
from sametolls.journals import replayed
from sametolls.listeners import surely_learnt
from sametolls.loads import least_cut, least_tick, too_much
from sametolls.nets import Net
from sametolls.openings import even_timing
from sametolls.orders import floors, in_row, least_peak, least_sum
from sametolls.plans import counts, least_plan, over, said, translated
from sametolls.programs import as_program, ends, first_failed, fooled, talked, talks
from sametolls.reading import read_plan, read_sheet
from sametolls.runs import run, wanted
from sametolls.sheets import Sheet
from sametolls.texts import plan_text, sheet_text
from sametolls.timetables import known, met, timetable
from sametolls.tolls import toll, toll_square, tolls
from sametolls.trees import Tree, ways
from sametolls.undoing import behind, can_be_undone, mirrored, staying, summed, undone
from tests.support import (EXAMPLE, Dice, add, flat, invertible_rows, mix, numbers_at, own_rank, row_sheets, row_tree,
                           some_sheets, spread_block, star_tree, times, undoable_sheets, units)


def own_tolls(sheet):
    """The dict from all ways to their tolls, by own ranks."""
    return {way: own_rank(sheet.p, spread_block(sheet, way)) for way in ways(sheet.tree)}


def turned(sheet, names):
    """The sheet in which each post has another number."""
    order = sorted(range(sheet.tree.posts), key=lambda post: names[post])
    ties = tuple(sorted(tuple(sorted((names[one], names[other]))) for one, other in sheet.tree.ties))
    numbers = flat(numbers_at(sheet, post) for post in order)
    wants = tuple(tuple(tuple(row[at] for at in numbers) for row in sheet.wants[post]) for post in order)
    return Sheet(sheet.p, Tree(ties), tuple(sheet.holds[post] for post in order), wants)


def stirred(dice, sheet):
    """The sheet in which each post holds and wants mixtures that can be taken back of what it held and wanted."""
    columns = [tuple(row[at] for row in flat(sheet.wants)) for at in range(sheet.numbers)]
    wide = len(flat(sheet.wants))
    for post in range(sheet.tree.posts):
        own = numbers_at(sheet, post)
        square = invertible_rows(dice, sheet.p, len(own)) if own else []
        mixed = [mix(sheet.p, wide, factors, [columns[at] for at in own]) for factors in square]
        for at, column in zip(own, mixed):
            columns[at] = column
    rows = [tuple(column[at] for column in columns) for at in range(wide)]
    wants = []
    for own in sheet.wants:
        mine = [rows.pop(0) for _ in own]
        square = invertible_rows(dice, sheet.p, len(mine)) if mine else []
        wants.append(tuple(mix(sheet.p, sheet.numbers, factors, mine) for factors in square))
    return Sheet(sheet.p, sheet.tree, sheet.holds, tuple(wants))


def told_twice(dice, sheet):
    """The sheet in which some wants are told twice, or their sums with others are told besides."""
    wants = []
    for own in sheet.wants:
        more = ()
        if own and len(own) < 8:
            one, other = own[dice.below(len(own))], own[dice.below(len(own))]
            more = (add(sheet.p, one, times(sheet.p, dice.below(sheet.p), other)),)
        wants.append(own + more)
    return Sheet(sheet.p, sheet.tree, sheet.holds, tuple(wants))


class AllDoors(unittest.TestCase):
    def check(self, sheet):
        """Whether all that tells tolls tells the same ones."""
        least = own_tolls(sheet)
        self.assertEqual(tolls(sheet), least)
        plan = least_plan(sheet)
        net = Net(sheet, (0,) * sheet.numbers)
        desk = Desk()
        desk.tell("net a " + sheet_text(sheet).replace("\n", ";"))
        for way, many in least.items():
            self.assertEqual(toll(sheet, way), many)
            self.assertEqual([len(part) for part in toll_square(sheet, way)], [many, many])
            self.assertEqual(len(surely_learnt(sheet, (way,))), many)
            self.assertEqual((net.toll(way), len(net.rows(way))), (many, many))
            self.assertEqual(desk.tell(f"toll a {way[0]} {way[1]}"), str(many))
        everything = tuple(range(sheet.numbers))
        self.assertEqual(counts(sheet, plan), least)
        self.assertEqual(counts(sheet, net.plan()), least)
        self.assertEqual(over(sheet, plan), {})
        self.assertEqual(net.anew(everything), least)
        self.assertEqual(counts(sheet, net.renewal(everything)), least)
        self.assertEqual(desk.tell("sum a"), str(sum(least.values())))
        self.assertEqual(tolls(read_sheet(sheet_text(sheet))), least)
        self.assertEqual(tolls(mirrored(sheet)), {(there, here): least[here, there] for here, there in least})
        self.assertIsNone(barring(sheet.tree, sheet.holds, tuple(map(len, sheet.wants)), least))
        self.assertEqual(best_pace(sheet, 1), max([1, *least.values()]))
        return least

    def test_all_that_tells_tolls_tells_the_same(self):
        for sheet in some_sheets(1501, 40, 5, 2, 2):
            least = self.check(sheet)
            made = made_sheet(sheet.p, sheet.tree, sheet.holds, tuple(map(len, sheet.wants)), least)
            self.check(made)
            self.assertEqual(tolls(made), least)
            self.assertEqual(read_plan(sheet, plan_text(sheet, least_plan(sheet))), least_plan(sheet))

    def test_talks_of_least_plans(self):
        for sheet in some_sheets(1502, 30, 4, 1, 2, (2, 3)):
            program = as_program(sheet, least_plan(sheet))
            self.assertIsNone(first_failed(sheet, program))
            for way, many in own_tolls(sheet).items():
                self.assertEqual(talks(sheet, program, way), sheet.p ** many)
                self.assertIsNone(fooled(sheet, program, way))

    def test_sheets_that_can_be_undone(self):
        for sheet in undoable_sheets(1503, 30, 5, 6):
            back = undone(sheet)
            least = self.check(sheet)
            found = self.check(back)
            self.assertEqual(undone(back), sheet)
            for here, there in least:
                near = [post for post in range(sheet.tree.posts) if post in near_side(sheet.tree, (here, there))]
                more = sum(len(sheet.wants[post]) - sheet.holds[post] for post in near)
                self.assertEqual(found[here, there], least[here, there] + more)
            self.assertEqual(behind(sheet, back), staying(sheet.p, sheet.tree, sheet.holds))
            given = tuple(at % sheet.p for at in range(1, sheet.numbers + 1))
            answers = flat(wanted(sheet, given))
            self.assertEqual(tuple(flat(wanted(back, tuple(answers)))), given)
            self.assertEqual(tuple(flat(run(back, least_plan(back), tuple(answers))[1])), given)

    def test_nets_led_to_another_sheet_tell_its_tolls(self):
        dice = Dice(1504)
        for sheet in some_sheets(1505, 15, 4, 2, 2):
            net = Net(Sheet(sheet.p, sheet.tree, (0,) * sheet.tree.posts, ((),) * sheet.tree.posts), ())
            for post, count in enumerate(sheet.holds):
                for _ in range(count):
                    net.add_number(post, dice.below(sheet.p))
            for post, own in enumerate(sheet.wants):
                for row in own:
                    net.add_want(post, row)
            self.assertEqual(net.sheet(), sheet)
            for way, many in own_tolls(sheet).items():
                self.assertEqual((net.toll(way), len(said(sheet, net.plan(), way))), (many, many))
            start = Sheet(sheet.p, sheet.tree, (0,) * sheet.tree.posts, ((),) * sheet.tree.posts)
            self.assertEqual(replayed(start, (), net.journal()).sheet(), sheet)


def near_side(tree, way):
    """The posts this side of a way."""
    found, here = {way[0]}, None
    while here != found:
        here = set(found)
        found |= {other for tie in tree.ties for other in tie if set(tie) & found and set(tie) != set(way)}
    return found


class TheSameSheet(unittest.TestCase):
    def test_posts_in_another_order(self):
        dice = Dice(1511)
        for sheet in some_sheets(1512, 30, 5, 2, 2):
            names = dice.mixed(range(sheet.tree.posts))
            other = turned(sheet, names)
            least = tolls(sheet)
            self.assertEqual(tolls(other), {(names[here], names[there]): least[here, there] for here, there in least})
            self.assertEqual(best_pace(other, 2), best_pace(sheet, 2))
            self.assertEqual((least_peak(other)[0], least_sum(other)[0]), (least_peak(sheet)[0], least_sum(sheet)[0]))
            self.assertIs(can_be_undone(other), can_be_undone(sheet))

    def test_a_row_looked_at_from_its_other_end(self):
        for sheet in row_sheets(1513, 25, 5, 2, 2):
            other = turned(sheet, list(range(sheet.tree.posts))[::-1])
            timing = even_timing(sheet.tree.posts - 1, 1)
            self.assertEqual(least_tick(other, timing), least_tick(sheet, timing))
            hours = tuple(range(sheet.tree.posts))
            self.assertEqual(least_delay(other, 1, hours[::-1]), least_delay(sheet, 1, hours))

    def alike(self, sheet, other):
        """Whether all that hangs on tolls is the same for two sheets on one tree."""
        self.assertEqual(tolls(other), tolls(sheet))
        self.assertEqual(tolls(other), own_tolls(other))
        self.assertEqual(best_pace(other, 1), best_pace(sheet, 1))
        self.assertEqual((least_peak(other)[0], least_sum(other)[0]), (least_peak(sheet)[0], least_sum(sheet)[0]))
        everything = tuple(range(sheet.numbers))
        self.assertEqual(Net(other, (0,) * other.numbers).anew(everything), tolls(sheet))

    def test_numbers_and_wants_stirred(self):
        dice = Dice(1514)
        for sheet in some_sheets(1515, 30, 5, 3, 3):
            other = stirred(dice, sheet)
            self.alike(sheet, other)
            self.assertIs(can_be_undone(other), can_be_undone(sheet))

    def test_a_want_told_twice(self):
        dice = Dice(1516)
        for sheet in some_sheets(1517, 30, 5, 3, 3):
            self.alike(sheet, told_twice(dice, sheet))

    def test_rows_stirred_and_told_twice(self):
        dice = Dice(1518)
        for sheet in row_sheets(1519, 25, 5, 3, 3):
            hours = tuple(dice.below(5) for _ in range(sheet.tree.posts))
            timing = even_timing(sheet.tree.posts - 1, 2)
            for other in (stirred(dice, sheet), told_twice(dice, sheet)):
                self.alike(sheet, other)
                self.assertEqual(least_tick(other, timing), least_tick(sheet, timing))
                for breadth in (1, 3):
                    self.assertEqual(least_delay(other, breadth, hours), least_delay(sheet, breadth, hours))
                tick = least_tick(sheet, timing)
                self.assertTrue(all(then <= tick for then in met(other, timing, timetable(other, timing, tick))))

    def test_added_up(self):
        for sheet in some_sheets(1520, 20, 4, 2, 2):
            doubled = summed(sheet, sheet)
            self.assertEqual(tolls(doubled), tolls(sheet) if sheet.p > 2 else {way: 0 for way in ways(sheet.tree)})


class KnownByHand(unittest.TestCase):
    def test_rows_of_sums_of_ones_own_and_the_left_ones(self):
        for posts in range(1, 25):
            rows = [tuple(int(at in (post, post - 1)) for at in range(posts)) for post in range(posts)]
            sheet = Sheet(7, row_tree(posts), (1,) * posts, tuple((row,) for row in rows))
            self.assertEqual(tolls(sheet), {(here, there): int(here < there) for here, there in ways(sheet.tree)})
            self.assertEqual(tolls(undone(sheet)), tolls(sheet))
            self.assertEqual((ticks(sheet), overlap_ticks(sheet)), (min(posts - 1, 1), posts - 1))
            self.assertEqual(ticks(undone(sheet)), posts - 1)
            self.assertEqual((best_pace(sheet, 1), best_pace(sheet, 8)), (1, 1))
            self.assertEqual(least_delay(sheet, 1, (0,) * posts), min(posts - 1, 1))
            self.assertEqual(least_delay(undone(sheet), 1, (0,) * posts), posts - 1)
            self.assertEqual(least_delay(undone(sheet), 1, tuple(range(posts))), 0)
            self.assertIsNotNone(hours_table(undone(sheet), 1, tuple(range(posts))))
            self.assertEqual(sum(ends(sheet, least_plan(sheet)).values()), posts * (posts - 1) // 2)
            if posts <= 10:
                self.assertEqual((least_peak(sheet)[0], least_sum(sheet)[0]), (min(posts - 1, 1), posts - 1))

    def test_stars_whose_centre_wants_all(self):
        for posts in range(2, 25):
            for middle in (0, posts - 1, posts // 2):
                wants = [()] * posts
                many = min(posts, 8)
                wants[middle] = tuple(units(posts)[:many])
                sheet = Sheet(3, star_tree(posts, middle), (1,) * posts, tuple(wants))
                found = {(here, there): int(there == middle and here < many) for here, there in ways(sheet.tree)}
                self.assertEqual(tolls(sheet), found)
                self.assertEqual(best_pace(sheet, 1), 1)
                self.assertEqual(set(ends(sheet, least_plan(sheet)).values()), {0, 1} if posts > 2 or found else {0})
            if posts <= 8:
                # In a row the centre stands in the middle, and numbers come from both sides.
                side, other = (posts - 1) // 2, posts // 2
                peak, _ = least_peak(sheet)
                self.assertEqual(peak, other)
                self.assertEqual(least_sum(sheet)[0], side * (side + 1) // 2 + other * (other + 1) // 2)

    def test_all_to_all(self):
        for posts in range(2, 9):
            sheet = Sheet(2, row_tree(posts), (1,) * posts, (tuple(units(posts)),) * posts) if posts < 8 else None
            if sheet is None:
                continue
            self.assertEqual(tolls(sheet), {(here, there): here + 1 if here < there else posts - here
                                            for here, there in ways(sheet.tree)})
            self.assertEqual(best_pace(sheet, 1), posts - 1)
            self.assertEqual(least_tick(sheet, even_timing(posts - 1, 1)), posts - 1)
            self.assertEqual(least_tick(sheet, even_timing(posts - 1, 8)), posts - 1)
            self.assertEqual(least_sum(sheet)[0], posts * (posts - 1))


class EqualCalls(unittest.TestCase):
    def twice(self, call, *args):
        """Whether a call tells the same again behind spoiling what it told, and leaves what it is passed."""
        before = copy.deepcopy(args) if not any(isinstance(part, Sheet) for part in args) else None
        first = call(*args)
        kept = copy.deepcopy(first)
        spoil(first)
        second = call(*args)
        self.assertEqual(second, kept)
        if before is not None:
            self.assertEqual(args, before)

    def test_what_was_told_is_spoiled_in_between(self):
        for sheet in row_sheets(1531, 12, 4, 2, 2, (2, 3)):
            plan = least_plan(sheet)
            timing = even_timing(sheet.tree.posts - 1, 1)
            tick = least_tick(sheet, timing)
            given = (1,) * sheet.numbers
            for call, args in ((ways, (sheet.tree,)), (tolls, (sheet,)), (least_plan, (sheet,)), (counts, (sheet, plan)),
                               (over, (sheet, plan)), (translated, (sheet, plan, plan)), (run, (sheet, plan, given)),
                               (floors, (sheet,)), (least_sum, (sheet,)), (least_peak, (sheet,)), (ends, (sheet, plan)),
                               (pacing, (sheet, plan, 1, 60)), (timetable, (sheet, timing, tick)), (sheet_text, (sheet,)),
                               (least_pace, (sheet, plan, 1)), (hours_table, (sheet, 1, (tick,) * sheet.tree.posts)),
                               (talked, (sheet, as_program(sheet, plan), given)), (too_much, (sheet, timing, 0)),
                               (known, (sheet, timing, (), 0, 0)), (read_plan, (sheet, plan_text(sheet, plan)))):
                self.twice(call, *args)
            if timing.right:
                self.twice(least_cut, timing, 0, 1, 5)

    def test_nets_and_desks(self):
        for sheet in some_sheets(1532, 10, 4, 2, 2):
            net = Net(sheet, (1,) * sheet.numbers)
            if sheet.numbers:
                net.set_values({0: 0})
            net.add_post(0)
            for call, args in ((net.plan, ()), (net.journal, ()), (net.anew, ((),)), (net.renewal, ((),)),
                               (net.answers, ()), (net.marks, ()), (net.given, ())):
                self.twice(call, *args)

    def test_sheets_of_equal_calls_are_equal(self):
        for sheet in some_sheets(1533, 15, 4, 2, 2):
            order = tuple(range(sheet.tree.posts))
            for call, args in ((mirrored, (sheet,)), (in_row, (sheet, order)), (read_sheet, (sheet_text(sheet),))):
                self.assertEqual(call(*args), call(*args))
        self.assertEqual(in_row(EXAMPLE, (2, 0, 1)), in_row(EXAMPLE, (2, 0, 1)))


def spoil(thing):
    """Empty all dicts and lists in a thing."""
    if isinstance(thing, (tuple, list)):
        for part in thing:
            spoil(part)
    if isinstance(thing, dict):
        for part in thing.values():
            spoil(part)
    if isinstance(thing, (list, dict)):
        thing.clear()


if __name__ == "__main__":
    unittest.main()
