"""Journals of live nets, and doing again what they tell."""

import copy
import unittest

from sametolls.journals import replayed
from sametolls.nets import Net
from sametolls.sheets import Sheet
from sametolls.trees import Tree
from tests.support import EXAMPLE, Dice, all_odd, error_of, nested, row_tree
from tests.test_nets import Account, Case, call, nets, shown, some_change

GIVEN = (1, 2, 3)
GOOD = [("set_want", 1, 0, (1, 1, 1)), ("add_want", 0, (0, 0, 4)), ("drop_want", 0, 0), ("add_number", 1, 4),
        ("drop_number", 0), ("add_post", 2), ("drop_post", 3), ("set_value", 1, 0), ("set_values", ((0, 1), (2, 4)))]


def bad(journal):
    """What replayed raises for a journal of the example."""
    return error_of(replayed, EXAMPLE, GIVEN, journal)


class Journals(Case):
    def test_what_is_done_and_not_taken_back(self):
        net = Net(EXAMPLE, GIVEN)
        for name, *told in GOOD[:-1]:
            getattr(net, name)(*told)
        net.set_values({2: 4, 0: 1})
        self.assertEqual(net.journal(), GOOD)
        net.undo()
        net.undo()
        self.assertEqual(net.journal(), GOOD[:-2])
        net.redo()
        self.assertEqual(net.journal(), GOOD[:-1])
        net.mark("a")
        self.assertEqual(error_of(net.set_value, 9, 9)[0], "NoNumber")
        self.assertEqual(net.journal(), GOOD[:-1])
        net.undo()
        net.set_values({})
        self.assertEqual(net.journal(), GOOD[:-2] + [("set_values", ())])

    def test_put_in_again(self):
        dice = Dice(1251)
        for net, _ in nets(1252, 15):
            sheet, given = net.sheet(), net.given()
            for _ in range(20):
                call(net, some_change(dice, net.sheet()))
                if dice.below(4) == 0:
                    net.undo()
            journal = net.journal()
            for form in (list, tuple):
                other = replayed(sheet, given, form(journal))
                self.assertIsInstance(other, Net)
                self.assertEqual((other.sheet(), other.given(), other.journal()), (net.sheet(), net.given(), journal))
                self.assertEqual((other.deeds(), other.marks()), (len(journal), ()))
                account = Account(sheet, given)
                for name, *told in journal:
                    getattr(account, name)(*([dict(told[0])] if name == "set_values" else told))
                self.check(other, account)
            self.assertEqual(journal, net.journal())

    def test_four_hundred_changes(self):
        dice = Dice(1253)
        sheet = Sheet(3, row_tree(3), (1, 1, 1), (((1, 0, 0),), ((1, 1, 0),), ((0, 1, 1),)))
        net = Net(sheet, (1, 2, 0))
        for number in range(400):
            call(net, some_change(dice, net.sheet()))
            if number % 9 == 0:
                net.undo()
        journal = net.journal()
        self.assertGreater(len(journal), 350)
        other = replayed(sheet, (1, 2, 0), journal)
        self.assertEqual((other.sheet(), other.given(), other.journal()), (net.sheet(), net.given(), journal))
        for _ in range(len(journal)):
            other.undo()
        self.assertEqual((other.sheet(), other.given(), other.journal()), (sheet, (1, 2, 0), []))

    def test_nothing_to_do(self):
        for journal in ([], ()):
            net = replayed(EXAMPLE, GIVEN, journal)
            self.assertEqual(shown(net), shown(Net(EXAMPLE, GIVEN)))

    def test_what_is_passed_stays(self):
        journal = copy.deepcopy(GOOD)
        net = replayed(EXAMPLE, GIVEN, journal)
        self.assertEqual(journal, GOOD)
        journal.clear()
        net.journal().clear()
        self.assertEqual(net.journal(), GOOD)
        self.assertEqual(net.given(), replayed(EXAMPLE, GIVEN, tuple(GOOD)).given())


class Bad(unittest.TestCase):
    def test_no_given_comes_first(self):
        for given in all_odd() + [(1, 2), (1, 2, 5), [1, 2, 3], (1, True, 3)]:
            for journal in ([], None, [None]):
                self.assertEqual(error_of(replayed, EXAMPLE, given, journal), ("NoGiven", {}))

    def test_no_list_or_tuple(self):
        for journal in [thing for thing in all_odd() if not isinstance(thing, (list, tuple))] + [{0: GOOD[0]}, "journal"]:
            self.assertEqual(bad(journal), ("BadJournal", {"number": -1}))

    def test_the_first_entry_that_is_none(self):
        odd = all_odd() + [(), [], list(GOOD[0]), ["set_value", 0, 1], "set_value", ("set_value",), ("set_value", 0),
                           ("set_value", 0, 1, 2), ("Set_value", 0, 1), ("undo",), ("redo",), ("mark", "a"), ("copy",),
                           ("go_to", "a"), ("change", ("add_post", 0)), (0, 1), (("set_value", 0, 1),), ("", 0),
                           (b"set_value", 0, 1), (["set_value"], 0, 1), ({}, 0), (None, 0, 1), ("sheet",), ("add_post",),
                           ("add_post", 0, 0), ("toll", (0, 1)), ("set_values", {0: 1}), ("set_values", [(0, 1)]),
                           ("set_values",), ("set_values", 0, 1)]
        for entry in odd:
            for journal in ([entry], [entry] + GOOD, [entry, entry]):
                self.assertEqual(bad(journal), ("BadJournal", {"number": 0}), entry)
            self.assertEqual(bad(GOOD + [entry, None]), ("BadJournal", {"number": len(GOOD)}))
            self.assertEqual(bad((GOOD[0], entry)), ("BadJournal", {"number": 1}))

    def test_the_first_entry_that_cannot_be_done(self):
        cannot = [("set_want", 3, 0, (1, 1, 1)), ("set_want", 1, 1, (1, 1, 1)), ("set_want", 1, 0, (1, 1)),
                  ("set_want", 1, 0, [1, 1, 1]), ("set_want", True, 0, (1, 1, 1)), ("add_want", 0, (5, 0, 0)),
                  ("drop_want", 0, 1), ("add_number", 1, 5), ("add_number", 3, 1), ("drop_number", 3), ("add_post", 3),
                  ("drop_post", 0), ("drop_post", None), ("set_value", 0, -1), ("set_value", 3, 1), ("add_post", "0"),
                  ("set_values", ((1, 1), (0, 1))), ("set_values", ((0, 1), (0, 1))), ("set_values", ((0, 1), (0, 2))),
                  ("set_values", ((3, 1),)), ("set_values", ((0, 5),)), ("set_values", ((0, True),)),
                  ("set_values", ([0, 1],)), ("set_values", ((0, 1, 2),)), ("set_values", ((True, 1),)),
                  ("set_values", (0, 1)), ("set_values", None), ("set_values", nested("tuple", 38))]
        for entry in cannot:
            self.assertEqual(bad([entry]), ("BadJournal", {"number": 0}), entry)
            self.assertEqual(bad([("set_value", 0, 1), entry, None]), ("BadJournal", {"number": 1}), entry)
        self.assertEqual(bad([("add_number", 1, 1)] * 9), ("BadJournal", {"number": 7}))
        self.assertEqual(bad([("add_want", 1, (0, 0, 0))] * 9), ("BadJournal", {"number": 7}))
        self.assertEqual(bad([("add_post", 0)] * 30), ("BadJournal", {"number": 21}))

    def test_entries_left_out_put_in_and_exchanged(self):
        self.assertIsNone(bad(GOOD))
        # Without the number more, the last number of the others is not there, and rows are too long.
        self.assertEqual(bad(GOOD[:3] + GOOD[4:]), ("BadJournal", {"number": 7}))
        self.assertEqual(bad(GOOD[:5] + GOOD[6:]), ("BadJournal", {"number": 5}))
        self.assertEqual(bad(GOOD[:7] + [GOOD[6]] + GOOD[7:]), ("BadJournal", {"number": 7}))
        self.assertEqual(bad([GOOD[6], GOOD[5]]), ("BadJournal", {"number": 0}))
        self.assertEqual(bad(GOOD[3:4] + GOOD[:3]), ("BadJournal", {"number": 1}))

    def test_rows_that_are_no_longer_right(self):
        lone = Sheet(2, Tree(()), (1,), (((1,),),))
        journal = [("add_number", 0, 1), ("set_want", 0, 0, (1, 1)), ("drop_number", 0), ("set_want", 0, 0, (1, 1))]
        self.assertEqual(error_of(replayed, lone, (0,), journal), ("BadJournal", {"number": 3}))


if __name__ == "__main__":
    unittest.main()
