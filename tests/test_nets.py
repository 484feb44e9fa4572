"""Live nets: what they hold behind each change, what stays, and what is anew."""

import unittest

from sametolls.nets import Net
from sametolls.plans import counts, first_wrong, least_plan, said
from sametolls.sheets import Sheet
from sametolls.tolls import tolls
from sametolls.trees import Tree, ways
from tests.support import (EXAMPLE, ROW_OF_THREE, Dice, all_odd, all_wanted, error_of, great_sheet, is_spanned,
                           near_of, own_rank, row_tree, some_sheets, spread_block, star_tree, units)

NO_POSTS = all_odd() + [3, -1, "0", (0,), [1], {}]
NO_ROWS = all_odd() + [(1, 2), (1, 2, 3, 4), (1, 2, 5), (-1, 2, 3), (1, True, 3), [1, 2, 3], "123", (1, 2, None), {0: 1}]
NO_VALUES = all_odd() + [5, 6, -1, "1", (1,), [1], {}, 10 ** 59]


class Account:
    """What a net holds, reckoned apart: posts with what they hold and want, by names that never change."""

    def __init__(self, sheet, given):
        self.p = sheet.p
        self.ties = [set(tie) for tie in sheet.tree.ties]
        self.posts = list(range(sheet.tree.posts))
        self.fresh = sheet.numbers + 100
        names = list(range(sheet.numbers))
        self.held = {post: [names.pop(0) for _ in range(sheet.holds[post])] for post in self.posts}
        self.values = dict(enumerate(given))
        self.wants = {post: [dict(enumerate(row)) for row in sheet.wants[post]] for post in self.posts}

    def numbers(self):
        return [name for post in self.posts for name in self.held[post]]

    def named(self, row):
        return dict(zip(self.numbers(), row))

    def do(self, name, *told):
        getattr(self, name)(*told)

    def set_want(self, post, want, row):
        self.wants[self.posts[post]][want] = self.named(row)

    def add_want(self, post, row):
        self.wants[self.posts[post]].append(self.named(row))

    def drop_want(self, post, want):
        del self.wants[self.posts[post]][want]

    def add_number(self, post, value):
        self.fresh += 1
        self.held[self.posts[post]].append(self.fresh)
        self.values[self.fresh] = value

    def drop_number(self, number):
        name = self.numbers()[number]
        for own in self.held.values():
            if name in own:
                own.remove(name)

    def add_post(self, post):
        self.fresh += 1
        self.ties.append({self.posts[post], self.fresh})
        self.posts.append(self.fresh)
        self.held[self.fresh] = []
        self.wants[self.fresh] = []

    def drop_post(self, post):
        name = self.posts.pop(post)
        self.ties = [tie for tie in self.ties if name not in tie]

    def set_value(self, number, value):
        self.values[self.numbers()[number]] = value

    def set_values(self, values):
        names = self.numbers()
        for number, value in values.items():
            self.values[names[number]] = value

    def sheet(self):
        ties = tuple(sorted(tuple(sorted(self.posts.index(name) for name in tie)) for tie in self.ties))
        names = self.numbers()
        wants = tuple(tuple(tuple(row.get(name, 0) for name in names) for row in self.wants[post]) for post in self.posts)
        return Sheet(self.p, Tree(ties), tuple(len(self.held[post]) for post in self.posts), wants)

    def given(self):
        return tuple(self.values[name] for name in self.numbers())

    def rows_by_names(self, net):
        """What is said over each way, by the names of posts and numbers."""
        names = self.numbers()
        return {(self.posts[here], self.posts[there]): [dict(zip(names, row)) for row in net.rows((here, there))]
                for here, there in ways(net.sheet().tree)}


def some_change(dice, sheet):
    """A change of a sheet, drawn: the name of the method and what it is passed."""
    posts, numbers, p = sheet.tree.posts, sheet.numbers, sheet.p
    post = dice.below(posts)
    empty = [at for at in range(posts) if not sheet.holds[at] and not sheet.wants[at]
             and sum(at in tie for tie in sheet.tree.ties) == 1]
    name = ["set_want", "add_want", "drop_want", "add_number", "drop_number", "add_post", "drop_post", "set_value",
            "set_values", "set_want", "drop_number", "drop_want", "drop_post"][dice.below(13)]
    wanters = [at for at in range(posts) if sheet.wants[at]]
    if name == "set_want" and wanters:
        post = wanters[dice.below(len(wanters))]
        return name, post, dice.below(len(sheet.wants[post])), dice.row(p, numbers)
    if name == "drop_want" and wanters:
        post = wanters[dice.below(len(wanters))]
        return name, post, dice.below(len(sheet.wants[post]))
    if name == "add_want" and len(sheet.wants[post]) < 3:
        return name, post, dice.row(p, numbers)
    if name == "drop_number" and numbers:
        return name, dice.below(numbers)
    if name == "add_post" and posts < 6:
        return name, post
    if name == "drop_post" and empty:
        return name, empty[dice.below(len(empty))]
    if name == "set_value" and numbers:
        return name, dice.below(numbers), dice.below(p)
    if name == "set_values":
        return name, {number: dice.below(p) for number in range(numbers) if dice.below(2)}
    if name == "add_number" and sheet.holds[post] < 3:
        return name, post, dice.below(p)
    return some_change(dice, sheet)


def call(net, change):
    """Do a change with a net."""
    return getattr(net, change[0])(*change[1:])


def shown(net):
    """All that a net shows of itself."""
    paths = ways(net.sheet().tree)
    return (net.sheet().p, net.sheet().tree.ties, net.sheet().holds, net.sheet().wants, net.given(), net.answers(),
            {way: net.rows(way) for way in paths}, net.deeds(), net.marks(), net.journal())


class Case(unittest.TestCase):
    def check(self, net, account):
        """Whether all that a net shows is as it should be."""
        sheet = net.sheet()
        self.assertEqual(sheet, account.sheet())
        self.assertEqual(net.given(), account.given())
        self.assertEqual(net.answers(), all_wanted(sheet, net.given()))
        plan = net.plan()
        self.assertIsNone(first_wrong(sheet, plan))
        for way in ways(sheet.tree):
            rows = net.rows(way)
            block = spread_block(sheet, way)
            self.assertIsInstance(rows, tuple)
            self.assertEqual(said(sheet, plan, way), rows)
            self.assertEqual(net.toll(way), len(rows))
            self.assertEqual(own_rank(sheet.p, block), len(rows))
            self.assertEqual(own_rank(sheet.p, block + list(rows)), len(rows))
            self.assertEqual(own_rank(sheet.p, rows), len(rows))

    def stays(self, net, account, before):
        """Whether what was said stays wherever it may."""
        sheet = net.sheet()
        names = account.numbers()
        kept = 0
        for here, there in ways(sheet.tree):
            elder = before.get((account.posts[here], account.posts[there]))
            if elder is None:
                continue
            rows = tuple(tuple(row.get(name, 0) for name in names) for row in elder)
            block = spread_block(sheet, (here, there))
            toll = own_rank(sheet.p, block)
            if len(rows) == toll == own_rank(sheet.p, rows) == own_rank(sheet.p, list(rows) + block):
                self.assertEqual(net.rows((here, there)), rows)
                kept += 1
        return kept


def nets(seed, count, clocks=(2, 3, 5), most_posts=4):
    """Nets, and accounts of what they hold."""
    dice = Dice(seed)
    found = []
    for sheet in some_sheets(seed + 1, count, most_posts, 2, 2, clocks):
        given = tuple(dice.below(sheet.p) for _ in range(sheet.numbers))
        found.append((Net(sheet, given), Account(sheet, given)))
    return found


class Changes(Case):
    def test_thirty_drawn_changes(self):
        dice = Dice(1201)
        kept = 0
        names = set()
        for net, account in nets(1202, 25):
            self.check(net, account)
            for number in range(30):
                before = account.rows_by_names(net)
                change = some_change(dice, net.sheet())
                names.add(change[0])
                self.assertIsNone(call(net, change))
                account.do(*change)
                self.check(net, account)
                kept += self.stays(net, account, before)
                self.assertEqual(net.deeds(), number + 1)
        self.assertEqual(len(names), 9)
        self.assertGreater(kept, 1000)

    def test_rows_that_are_no_ladder_stay(self):
        # Behind these changes post 0 says what no ladder has, and goes on saying it.
        net = Net(Sheet(5, row_tree(2), (2, 0), ((), ((1, 0), (0, 1)))), (1, 2))
        net.add_number(0, 3)
        self.assertEqual(set(net.rows((0, 1))), {(1, 0, 0), (0, 1, 0)})
        net.set_want(1, 0, (1, 0, 3))
        net.set_want(1, 1, (0, 1, 2))
        self.assertEqual(net.toll((0, 1)), 2)
        first = net.rows((0, 1))
        net.set_want(1, 0, (2, 3, 2))
        net.set_want(1, 1, (3, 3, 0))
        self.assertTrue(all(is_spanned(5, first, row) for row in net.sheet().wants[1]))
        self.assertEqual(net.rows((0, 1)), first)
        net.drop_number(0)
        self.assertEqual(net.rows((0, 1)), tuple(row[1:] for row in first))
        net.drop_number(1)
        self.assertEqual(net.toll((0, 1)), 1)
        net.drop_want(1, 1)
        self.assertEqual(net.toll((0, 1)), 1)
        net.drop_want(1, 0)
        self.assertEqual(net.rows((0, 1)), ())

    def test_rows_that_no_ladder_has_go_on(self):
        # A number less makes rows of a ladder such that still span all, but are no ladder any more.
        net = Net(Sheet(5, row_tree(3), (3, 0, 0), ((), (), ((1, 0, 3), (0, 1, 2)))), (1, 2, 3))
        net.drop_number(0)
        rows = ((0, 3), (1, 2))
        self.assertEqual((net.rows((0, 1)), net.rows((1, 2))), (rows, rows))
        net.add_number(2, 4)
        net.add_number(0, 1)
        net.add_post(0)
        net.add_post(0)
        rows = ((0, 3, 0, 0), (1, 2, 0, 0))
        self.assertEqual((net.rows((0, 1)), net.rows((1, 2))), (rows, rows))
        net.drop_post(3)
        self.assertEqual((net.rows((0, 1)), net.rows((1, 2)), net.rows((0, 3))), (rows, rows, ()))
        net.add_want(3, (1, 1, 0, 1))
        net.set_value(0, 3)
        net.set_want(2, 1, (1, 0, 0, 0))
        self.assertEqual((net.rows((0, 1)), net.rows((1, 2)), net.rows((2, 1))), (rows, rows, ((0, 0, 0, 1),)))
        # Beyond the way back from post 2 its own number is wanted now.
        net.set_want(2, 0, (0, 0, 4, 0))
        self.assertEqual(len(net.rows((0, 1))), 2)
        self.assertEqual({row[3] for row in net.rows((0, 1))}, {0})
        tree = Tree(((0, 1), (0, 2), (2, 3)))
        net = Net(Sheet(5, tree, (0, 0, 3, 0), (((1, 0, 3),), (), (), ((0, 1, 2), (1, 0, 3)))), (1, 2, 3))
        net.drop_number(0)
        self.assertEqual(net.rows((2, 3)), ((0, 3), (1, 2)))
        net.drop_post(1)
        self.assertEqual((net.sheet().tree, net.rows((1, 2)), net.rows((1, 0))), (row_tree(3), ((0, 3), (1, 2)), ((0, 3),)))

    def test_values_alone_change_no_rows(self):
        for net, _ in nets(1203, 20):
            rows = {way: net.rows(way) for way in ways(net.sheet().tree)}
            if net.sheet().numbers:
                net.set_value(0, 1)
            net.set_values({number: 1 for number in range(net.sheet().numbers)})
            net.set_values({})
            self.assertEqual({way: net.rows(way) for way in ways(net.sheet().tree)}, rows)
            self.assertEqual(net.given(), (1,) * net.sheet().numbers)

    def test_each_change_by_hand(self):
        net = Net(EXAMPLE, (1, 2, 3))
        net.set_want(1, 0, (2, 0, 1))
        self.assertEqual(net.sheet().wants, (((1, 0, 0),), ((2, 0, 1),), ((0, 1, 1),)))
        net.add_want(1, (4, 4, 4))
        self.assertEqual(net.sheet().wants[1], ((2, 0, 1), (4, 4, 4)))
        net.drop_want(1, 0)
        self.assertEqual(net.sheet().wants[1], ((4, 4, 4),))
        net.add_number(0, 4)
        self.assertEqual((net.sheet().holds, net.given()), ((2, 1, 1), (1, 4, 2, 3)))
        self.assertEqual(net.sheet().wants, (((1, 0, 0, 0),), ((4, 0, 4, 4),), ((0, 0, 1, 1),)))
        net.drop_number(2)
        self.assertEqual((net.sheet().holds, net.given()), ((2, 0, 1), (1, 4, 3)))
        self.assertEqual(net.sheet().wants, (((1, 0, 0),), ((4, 0, 4),), ((0, 0, 1),)))
        net.add_post(1)
        self.assertEqual(net.sheet().tree, Tree(((0, 1), (1, 2), (1, 3))))
        self.assertEqual((net.sheet().holds, net.sheet().wants[3]), ((2, 0, 1, 0), ()))
        net.add_post(0)
        self.assertEqual(net.sheet().tree, Tree(((0, 1), (0, 4), (1, 2), (1, 3))))
        net.drop_post(3)
        self.assertEqual(net.sheet().tree, Tree(((0, 1), (0, 3), (1, 2))))
        net.set_value(1, 0)
        self.assertEqual(net.given(), (1, 0, 3))
        net.set_values({2: 1, 0: 2})
        self.assertEqual(net.given(), (2, 0, 1))
        self.assertEqual(net.answers(), all_wanted(net.sheet(), (2, 0, 1)))
        self.assertEqual(net.deeds(), 10)

    def test_greater_posts_count_one_less_and_their_ways_go_on(self):
        # Post 1 is a leaf beside others; what the others say among one another stays.
        tree = Tree(((0, 1), (0, 2), (2, 3)))
        wants = (((0, 0, 1),), (), ((1, 1, 0),), ((2, 1, 0), (1, 1, 0)))
        net = Net(Sheet(5, tree, (2, 0, 0, 1), wants), (1, 2, 3))
        before = {way: net.rows(way) for way in ways(tree)}
        net.drop_post(1)
        self.assertEqual(net.sheet().tree, Tree(((0, 1), (1, 2))))
        names = {0: 0, 1: 2, 2: 3}
        for here, there in ways(net.sheet().tree):
            self.assertEqual(net.rows((here, there)), before[names[here], names[there]])
        net.undo()
        self.assertEqual({way: net.rows(way) for way in ways(tree)}, before)

    def test_what_is_shown_is_new_each_time(self):
        net = Net(EXAMPLE, (1, 2, 3))
        plan, journal, anew = net.plan(), net.journal(), net.anew((0, 1))
        plan[0].clear()
        journal.append(("add_post", 0))
        anew.clear()
        self.assertEqual(len(net.plan()[0]), 4)
        self.assertEqual(net.journal(), [])
        self.assertEqual(len(net.anew((0, 1))), 4)
        values = {0: 4}
        net.set_values(values)
        values[0] = 3
        self.assertEqual((net.given(), net.journal()), ((4, 2, 3), [("set_values", ((0, 4),))]))

    def test_two_nets_led_alike_show_the_same(self):
        dice = Dice(1204)
        for net, _ in nets(1205, 10):
            other = Net(net.sheet(), net.given())
            for _ in range(12):
                change = some_change(dice, net.sheet())
                call(net, change)
                call(other, change)
                other.plan()[0].clear()
                other.journal().clear()
                self.assertEqual(shown(net), shown(other))


class Full(Case):
    def full(self, net, name, *told):
        before = shown(net)
        self.assertEqual(error_of(getattr(net, name), *told), ("Full", {}))
        self.assertEqual(shown(net), before)

    def test_the_ninth_of_a_post(self):
        net = Net(EXAMPLE, (1, 2, 3))
        for _ in range(7):
            net.add_want(1, (1, 1, 1))
        self.full(net, "add_want", 1, (1, 1, 1))
        net.add_want(0, (1, 1, 1))
        for _ in range(7):
            net.add_number(2, 4)
        self.full(net, "add_number", 2, 4)
        net.add_number(1, 0)
        self.assertEqual((net.sheet().holds, [len(rows) for rows in net.sheet().wants]), ((1, 2, 8), [2, 8, 1]))
        net.drop_want(1, 7)
        net.add_want(1, net.sheet().wants[0][0])
        net.drop_number(10)
        net.add_number(2, 1)
        self.full(net, "add_number", 2, 4)

    def test_the_61st_of_all(self):
        holds = (8,) * 7 + (3,)
        wants = tuple(((0,) * 59,) * count for count in holds)
        net = Net(Sheet(2, row_tree(8), holds, wants), (1,) * 59)
        net.add_want(7, (0,) * 59)
        self.full(net, "add_want", 7, (0,) * 59)
        net.add_number(7, 1)
        self.full(net, "add_number", 7, 1)
        self.full(net, "add_want", 7, (1,) * 60)
        net.drop_want(0, 0)
        net.add_want(7, (1,) * 60)
        net.drop_number(0)
        net.add_number(7, 0)
        self.assertEqual((net.sheet().numbers, sum(len(rows) for rows in net.sheet().wants)), (60, 60))

    def test_the_25th_post(self):
        net = Net(Sheet(2, row_tree(23), (0,) * 23, ((),) * 23), ())
        net.add_post(0)
        self.full(net, "add_post", 0)
        self.assertEqual(net.sheet().tree.posts, 24)
        net.drop_post(22)
        net.add_post(22)
        self.full(net, "add_post", 23)


class Errors(Case):
    def setUp(self):
        self.net = Net(EXAMPLE, (1, 2, 3))
        self.net.set_value(0, 4)
        self.net.set_value(0, 1)
        self.net.mark("there")
        self.net.undo()
        self.before = shown(self.net)

    def bad(self, kind, name, *told):
        self.assertEqual(error_of(getattr(self.net, name), *told), (kind, {}), (name, told))

    def tearDown(self):
        # Nothing has changed, and what was taken back can still be done again.
        self.assertEqual(shown(self.net), self.before)
        self.net.redo()
        self.assertEqual(self.net.given(), (1, 2, 3))

    def test_no_given(self):
        for given in NO_ROWS:
            self.assertEqual(error_of(Net, EXAMPLE, given), ("NoGiven", {}))

    def test_no_post_comes_first(self):
        for post in NO_POSTS:
            for want, row in ((0, (1, 2, 3)), (None, None)):
                self.bad("NoPost", "set_want", post, want, row)
                self.bad("NoPost", "drop_want", post, want)
                self.bad("NoPost", "add_want", post, row)
                self.bad("NoPost", "add_number", post, want)
            self.bad("NoPost", "add_post", post)
            self.bad("NoPost", "drop_post", post)

    def test_no_want_then_no_row(self):
        for want in all_odd() + [1, 2, -1, "0", (0,)]:
            for row in ((1, 2, 3), None):
                self.bad("NoWant", "set_want", 1, want, row)
            self.bad("NoWant", "drop_want", 1, want)
        for row in NO_ROWS:
            self.bad("NoRow", "set_want", 1, 0, row)
            self.bad("NoRow", "add_want", 1, row)

    def test_no_row_and_no_value_ahead_of_full(self):
        holds = (8, 0)
        net = Net(Sheet(2, row_tree(2), holds, (((0,) * 8,) * 8, ())), (1,) * 8)
        self.assertEqual(error_of(net.add_want, 0, (0,) * 7), ("NoRow", {}))
        self.assertEqual(error_of(net.add_want, 0, (0,) * 8), ("Full", {}))
        self.assertEqual(error_of(net.add_number, 0, 2), ("NoValue", {}))
        self.assertEqual(error_of(net.add_number, 0, 1), ("Full", {}))
        self.assertEqual(error_of(net.add_number, 2, 2), ("NoPost", {}))

    def test_no_value(self):
        for value in NO_VALUES:
            self.bad("NoValue", "add_number", 1, value)
            self.bad("NoValue", "set_value", 1, value)

    def test_no_number(self):
        for number in NO_POSTS:
            self.bad("NoNumber", "drop_number", number)
            self.bad("NoNumber", "set_value", number, 1)
            self.bad("NoNumber", "set_value", number, None)

    def test_not_empty(self):
        for post in range(3):
            self.bad("NotEmpty", "drop_post", post)
        tree = star_tree(5, 1)
        net = Net(Sheet(3, tree, (0, 0, 1, 0, 0), ((), (), (), ((0,),), ())), (1,))
        for post, good in ((1, False), (2, False), (3, False), (4, True), (0, True)):
            if good:
                net.drop_post(post)
            else:
                self.assertEqual(error_of(net.drop_post, post), ("NotEmpty", {}))
        self.assertEqual(net.sheet().tree, Tree(((0, 1), (0, 2))))
        lone = Net(Sheet(3, Tree(()), (0,), ((),)), ())
        self.assertEqual(error_of(lone.drop_post, 0), ("NotEmpty", {}))

    def test_no_values(self):
        for values in [thing for thing in all_odd() if thing != {}] + [
                {3: 1}, {-1: 1}, {0: 5}, {0: -1}, {0: True}, {0: None}, {0: 1, 1: 5}, {"0": 1}, {(0,): 1}, {None: 1},
                [(0, 1)], ((0, 1),), ((0, 1), (1, 2)), [], (), {0: 1, "1": 1}, {0: [1]}, {10 ** 59: 1}, (1, 2, 3), {1: {}},
                {0: 1, None: 1, (1, 2): 3}]:
            self.bad("NoValues", "set_values", values)

    def test_no_way(self):
        for way in all_odd() + [(0, 2), (0, 0), (0, 1, 2), [0, 1], (True, 2), (0, True), (0, 3), (-1, 0), "01", (0, None)]:
            self.bad("NoWay", "toll", way)
            self.bad("NoWay", "rows", way)

    def test_no_lot(self):
        for lot in [thing for thing in all_odd() if thing != ()] + [[], [0], (1, 0), (0, 0), (3,), (0, 3), (-1,), (True,),
                                                                    (0, None), ("0",), "0", 0, {0: 0}, ((0,),)]:
            self.bad("NoLot", "anew", lot)
            self.bad("NoLot", "renewal", lot)


class Anew(Case):
    def test_lots_of_none_some_and_all(self):
        dice = Dice(1211)
        for sheet in some_sheets(1212, 50, 5, 3, 3):
            net = Net(sheet, (0,) * sheet.numbers)
            full = tuple(range(sheet.numbers))
            for lot in [(), full] + [tuple(at for at in full if dice.below(2)) for _ in range(3)]:
                wants = tuple(tuple(tuple(value if at in lot else 0 for at, value in enumerate(row)) for row in rows)
                              for rows in sheet.wants)
                small = Sheet(sheet.p, sheet.tree, sheet.holds, wants)
                found = net.anew(lot)
                self.assertEqual(found, {way: own_rank(sheet.p, spread_block(small, way)) for way in ways(sheet.tree)})
                plan = net.renewal(lot)
                self.assertIsNone(first_wrong(small, plan))
                self.assertEqual(counts(small, plan), found)
            self.assertEqual(net.anew(full), tolls(sheet))
            self.assertEqual(set(net.anew(()).values()) | {0}, {0})

    def test_of_the_sheet_as_it_is_now(self):
        net = Net(EXAMPLE, (1, 2, 3))
        self.assertEqual(net.anew((0, 2)), {(0, 1): 1, (1, 0): 0, (1, 2): 0, (2, 1): 0})
        net.set_want(0, 0, (0, 0, 1))
        self.assertEqual(net.anew((0, 2)), {(0, 1): 1, (1, 0): 1, (1, 2): 0, (2, 1): 1})
        net.add_number(0, 1)
        net.set_want(2, 0, (1, 1, 0, 0))
        self.assertEqual(net.anew((1, 3)), {(0, 1): 1, (1, 0): 1, (1, 2): 1, (2, 1): 1})
        self.assertEqual(net.anew((1, 2)), {(0, 1): 1, (1, 0): 0, (1, 2): 1, (2, 1): 0})
        self.assertEqual(error_of(net.anew, (1, 4)), ("NoLot", {}))
        net.undo()
        net.undo()
        self.assertEqual(error_of(net.anew, (1, 3)), ("NoLot", {}))

    def test_great_nets(self):
        sheet = great_sheet()
        net = Net(sheet, (0,) * 60)
        self.assertEqual({way: net.toll(way) for way in ways(sheet.tree)}, tolls(sheet))
        self.assertIsNone(first_wrong(sheet, net.plan()))
        self.assertEqual(net.anew(tuple(range(60))), tolls(sheet))
        net.set_want(23, 0, (0,) * 60)
        self.assertEqual({way: net.toll(way) for way in ways(sheet.tree)}, tolls(net.sheet()))
        near = near_of(sheet, (3, 4))
        self.assertTrue(all(value == 0 for row in net.rows((3, 4)) for at, value in enumerate(row) if at not in near))

    def test_least_plans_of_what_is_held(self):
        net = Net(Sheet(3, ROW_OF_THREE, (0, 0, 1), (((2,),), (), ())), (1,))
        self.assertEqual(counts(net.sheet(), net.plan()), counts(net.sheet(), least_plan(net.sheet())))
        self.assertEqual(len(units(1)), net.toll((1, 0)))


if __name__ == "__main__":
    unittest.main()
