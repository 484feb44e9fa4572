"""Live nets going back and forth: undo, redo, marks, copies, trying."""

import unittest

from sametolls.errors import NoRow, NothingDone
from sametolls.nets import Net
from sametolls.sheets import Sheet
from sametolls.trees import Tree
from tests.support import EXAMPLE, Dice, all_odd, error_of
from tests.test_nets import call, nets, shown, some_change

NO_NAMES = [thing for thing in all_odd() if not isinstance(thing, str) or thing != "ab"] + ["", "A", "aB", "abcdefghi", "a b", "a1", "1", "a\n", "a\t", "-", "_", "a_b", " a", "a ", ("a",),
                        ["a"], b"a", {"a": 1}, "{", "`", "Z"]


class BackAndForth(unittest.TestCase):
    def test_undo_and_redo_lead_to_the_very_rows(self):
        dice = Dice(1221)
        for net, _ in nets(1222, 12):
            states = [shown(net)]
            for _ in range(12):
                call(net, some_change(dice, net.sheet()))
                states.append(shown(net))
            at = 12
            for _ in range(60):
                if dice.below(2) and at > 0:
                    self.assertIsNone(net.undo())
                    at -= 1
                elif at < 12:
                    self.assertIsNone(net.redo())
                    at += 1
                self.assertEqual(shown(net), states[at])
                self.assertEqual(net.deeds(), at)

    def test_nothing_done(self):
        net = Net(EXAMPLE, (1, 2, 3))
        self.assertEqual(error_of(net.undo), ("NothingDone", {}))
        self.assertEqual(error_of(net.redo), ("NothingDone", {}))
        net.set_value(0, 4)
        self.assertEqual(error_of(net.redo), ("NothingDone", {}))
        net.undo()
        self.assertEqual(error_of(net.undo), ("NothingDone", {}))
        net.redo()
        self.assertEqual(error_of(net.redo), ("NothingDone", {}))
        self.assertEqual(net.given(), (4, 2, 3))

    def test_a_change_behind_undo_takes_redo_away(self):
        net = Net(EXAMPLE, (1, 2, 3))
        for value in (2, 3, 4):
            net.set_value(0, value)
        net.undo()
        net.undo()
        # What raises an error is no change.
        self.assertEqual(error_of(net.set_value, 0, 5), ("NoValue", {}))
        net.redo()
        self.assertEqual(net.given(), (3, 2, 3))
        net.undo()
        net.set_value(1, 0)
        self.assertEqual(error_of(net.redo), ("NothingDone", {}))
        self.assertEqual((net.given(), net.deeds()), ((2, 0, 3), 2))
        self.assertEqual(net.journal(), [("set_value", 0, 2), ("set_value", 1, 0)])
        net.undo()
        net.undo()
        self.assertEqual((net.given(), net.deeds(), net.journal()), ((1, 2, 3), 0, []))

    def test_changes_that_change_nothing_are_deeds_too(self):
        net = Net(EXAMPLE, (1, 2, 3))
        net.set_value(0, 1)
        net.set_values({})
        net.set_want(0, 0, (1, 0, 0))
        self.assertEqual(net.deeds(), 3)
        for _ in range(3):
            net.undo()
        self.assertEqual(error_of(net.undo), ("NothingDone", {}))


class Marks(unittest.TestCase):
    def test_going_to_marks(self):
        dice = Dice(1231)
        for net, _ in nets(1232, 12):
            states = {}
            for number in range(9):
                if dice.below(2):
                    name = "abcdefghi"[number] * (1 + dice.below(8))
                    self.assertIsNone(net.mark(name))
                    states[name] = shown(net)[:8]
                call(net, some_change(dice, net.sheet()))
            self.assertEqual(net.marks(), tuple(sorted(states)))
            for name in dice.mixed(sorted(states) * 2):
                self.assertIsNone(net.go_to(name))
                self.assertEqual(shown(net)[:8], states[name])

    def test_a_mark_is_no_change_and_stands_in_the_place_of_an_elder_one(self):
        net = Net(EXAMPLE, (1, 2, 3))
        net.mark("b")
        net.set_value(0, 2)
        net.mark("a")
        self.assertEqual((net.deeds(), net.marks()), (1, ("a", "b")))
        net.set_value(0, 3)
        net.undo()
        net.mark("b")
        net.redo()
        self.assertEqual(net.given(), (3, 2, 3))
        net.go_to("b")
        self.assertEqual((net.given(), net.deeds(), net.marks()), ((2, 2, 3), 1, ("a", "b")))

    def test_marks_at_greater_numbers_go_by_a_change_behind_undo(self):
        net = Net(EXAMPLE, (1, 2, 3))
        for name in "abcd":
            net.mark(name)
            net.set_value(0, 4)
        net.mark("e")
        net.undo()
        net.undo()
        self.assertEqual(net.marks(), ("a", "b", "c", "d", "e"))
        self.assertEqual(error_of(net.set_value, 0, None), ("NoValue", {}))
        self.assertEqual(net.marks(), ("a", "b", "c", "d", "e"))
        net.set_value(0, 3)
        # c stood just at the number of deeds ahead of the change.
        self.assertEqual((net.deeds(), net.marks()), (3, ("a", "b", "c")))
        self.assertEqual(error_of(net.go_to, "d"), ("NoMark", {"name": "d"}))
        net.go_to("a")
        net.set_value(0, 3)
        self.assertEqual(net.marks(), ("a",))
        net.go_to("a")
        self.assertEqual((net.given(), net.deeds()), ((1, 2, 3), 0))

    def test_a_change_without_undo_takes_no_mark_away(self):
        net = Net(EXAMPLE, (1, 2, 3))
        net.set_value(0, 2)
        net.mark("x")
        net.set_value(0, 3)
        net.set_value(0, 4)
        self.assertEqual(net.marks(), ("x",))
        net.undo()
        net.set_value(0, 0)
        self.assertEqual(net.marks(), ("x",))

    def test_going_forth_to_a_mark(self):
        net = Net(EXAMPLE, (1, 2, 3))
        net.set_value(0, 2)
        net.set_value(0, 3)
        net.mark("late")
        net.undo()
        net.undo()
        net.go_to("late")
        self.assertEqual((net.given(), net.deeds()), ((3, 2, 3), 2))

    def test_no_mark(self):
        net = Net(EXAMPLE, (1, 2, 3))
        net.mark("abcdefgh")
        net.mark("z")
        for name in NO_NAMES:
            for method in (net.mark, net.go_to):
                kind, fields = error_of(method, name)
                self.assertEqual((kind, list(fields)), ("NoMark", ["name"]))
                self.assertIs(fields["name"], name)
        for name in ("a", "zz", "abcdefg"):
            self.assertEqual(error_of(net.go_to, name), ("NoMark", {"name": name}))
        self.assertEqual(net.marks(), ("abcdefgh", "z"))


class Copies(unittest.TestCase):
    def test_copies_go_on_apart(self):
        dice = Dice(1241)
        for net, _ in nets(1242, 10):
            for _ in range(6):
                call(net, some_change(dice, net.sheet()))
            net.mark("here")
            net.undo()
            other = net.copy()
            self.assertIsInstance(other, Net)
            self.assertEqual(shown(other), shown(net))
            before = shown(net)
            other.redo()
            other.mark("there")
            call(other, some_change(dice, other.sheet()))
            self.assertEqual(shown(net), before)
            after = shown(other)
            net.go_to("here")
            net.undo()
            net.undo()
            call(net, some_change(dice, net.sheet()))
            self.assertEqual(net.marks(), ())
            self.assertEqual(shown(other), after)
            other.go_to("here")
            for _ in range(6):
                other.undo()
            self.assertEqual(error_of(other.undo), ("NothingDone", {}))
            other.go_to("there")
            self.assertEqual(other.deeds(), 6)


class Odd(Exception):
    """An error of none of the package's classes."""


class Trying(unittest.TestCase):
    def setUp(self):
        self.net = Net(EXAMPLE, (1, 2, 3))
        self.net.set_value(0, 2)
        self.net.mark("one")
        self.net.add_number(1, 4)
        self.net.set_want(1, 0, (1, 1, 1, 1))
        self.net.mark("three")
        self.net.undo()
        self.before = shown(self.net)

    def tearDown(self):
        self.assertEqual(shown(self.net), self.before)
        self.net.redo()
        self.assertEqual(self.net.sheet().wants[1], ((1, 1, 1, 1),))
        self.assertEqual(error_of(self.net.redo), ("NothingDone", {}))
        self.net.go_to("one")
        self.assertEqual(self.net.given(), (2, 2, 3))

    def test_what_the_function_returns(self):
        seen = []
        self.assertEqual(self.net.trying(seen.append), None)
        self.assertIs(seen[0], self.net)
        thing = object()
        self.assertIs(self.net.trying(lambda net: thing), thing)

    def test_changes_undo_and_marks(self):
        def changes(net):
            net.undo()
            net.set_value(0, 0)
            net.mark("other")
            net.mark("one")
            net.add_post(0)
            return net.given(), net.deeds(), net.marks()
        self.assertEqual(self.net.trying(changes), ((0, 2, 3), 3, ("one", "other")))

    def test_back_to_the_very_first_and_forth(self):
        def far(net):
            while net.deeds():
                net.undo()
            net.redo()
            net.redo()
            net.redo()
            net.go_to("one")
            return net.given()
        self.assertEqual(self.net.trying(far), (2, 2, 3))

    def test_errors_go_on(self):
        def raises(error):
            def action(net):
                net.set_value(0, 0)
                net.mark("lost")
                raise error
            return action
        for error in (Odd("own"), NoRow(), KeyError(3), NothingDone()):
            with self.assertRaises(type(error)) as held:
                self.net.trying(raises(error))
            self.assertIs(held.exception, error)
            self.assertEqual(shown(self.net), self.before)
        with self.assertRaises(NothingDone):
            self.net.trying(lambda net: [net.undo() for _ in range(9)])

    def test_within_one_another(self):
        def outer(net):
            net.set_value(0, 0)
            inner = net.trying(lambda held: (held.set_value(1, 0), held.given(), held.undo(), held.undo())[1])
            return inner, net.given(), net.deeds()
        self.assertEqual(self.net.trying(outer), ((0, 0, 4, 3), (0, 2, 4, 3), 3))

    def test_copies_that_are_made_meanwhile_stay(self):
        def kept(net):
            net.set_value(0, 0)
            return net.copy()
        other = self.net.trying(kept)
        self.assertEqual((other.given(), other.deeds()), ((0, 2, 4, 3), 3))


class Lone(unittest.TestCase):
    def test_a_net_without_anything(self):
        net = Net(Sheet(2, Tree(()), (0,), ((),)), ())
        self.assertEqual(shown(net), (2, (), (0,), ((),), (), ((),), {}, 0, (), []))
        self.assertEqual(net.plan(), ({}, ((),)))
        net.add_post(0)
        net.add_number(1, 1)
        net.add_want(0, (1,))
        self.assertEqual((net.rows((1, 0)), net.rows((0, 1)), net.answers()), (((1,),), (), ((1,), ())))


if __name__ == "__main__":
    unittest.main()
