"""Rules along a tree: what may stand in them, their sheets, and rules changed."""

import copy
import unittest

from sametolls.rulesheets import Rules, rule_sheet, with_rule, without_rule
from sametolls.sheets import Sheet
from sametolls.trees import Tree
from tests.support import (EXAMPLE, ROW_OF_THREE, Dice, all_odd, error_of, row_tree, rule_row, some_rule_sheets,
                           star_tree)

ONE = Tree(())
# Posts 0 and 2 are not tied: rules of 0 have 0 at the unknown 3, those of 2 at 0 and 1.
UNKNOWNS = (2, 1, 1)
RULES = ((((1, 2, 3, 0), 4), ((0, 0, 0, 0), 0)), (((4, 3, 2, 1), 0),), (((0, 0, 1, 1), 2),))
RIGHT = Rules(5, ROW_OF_THREE, UNKNOWNS, RULES)
NO_CLOCKS = all_odd() + [0, 1, 4, 1000003, "5", (5,), [5]]
NO_COUNTS = all_odd() + [(), (1,), (1, 1), (1, 1, 1, 1), [2, 1, 1], (2, 1, -1), (9, 0, 0), (0, 0, 9), (2, True, 1),
                         (False, 1, 1), (2, None, 1), (2, "1", 1), (2, (1,), 1), 4, "211", {0: 2, 1: 1, 2: 1},
                         (2, [1], 1), (10 ** 59, 1, 1), ((2,), (1,), (1,))]
NO_RULES = all_odd() + [(), RULES[:2], RULES + ((),), list(RULES), ([], (), ()), ((), [], ()), ((), (), {}),
                        ((), (), None), (None, (), ()), ((), 0, ()), ((), (), RULES[2] * 9), ((None,) * 9, (None,), ()),
                        "abc", {0: (), 1: (), 2: ()}, ((), (), "")]
NOT_ONE_RULE = all_odd() + [(), ((1, 2, 3, 0),), ((1, 2, 3, 0), 4, 0), [(1, 2, 3, 0), 4], ([1, 2, 3, 0], 4),
                            ((1, 2, 3), 4), ((1, 2, 3, 0, 0), 4), ((1, 2, 5, 0), 4), ((1, 2, -1, 0), 4),
                            ((1, True, 3, 0), 4), ((False, 2, 3, 0), 4), ((1, None, 3, 0), 4), ((1, (2,), 3, 0), 4),
                            ((1, "2", 3, 0), 4), ("1230", 4), ((1, 2, 3, 0), 5), ((1, 2, 3, 0), -1),
                            ((1, 2, 3, 0), True), ((1, 2, 3, 0), None), ((1, 2, 3, 0), (4,)), ((1, 2, 3, 0), "4"),
                            (4, (1, 2, 3, 0)), {0: (1, 2, 3, 0), 1: 4}, (1, 2, 3, 0), (1, 2, 3, 0, 4),
                            ((1, 2, 10 ** 59, 0), 4), ((1, 2, 3, 0), 10 ** 59), ((0, 0, 0, False), 0), ((), 0)]


def instead(post, number, rule):
    """The rules with another one in one place."""
    own = RULES[post][:number] + (rule,) + RULES[post][number + 1:]
    return RULES[:post] + (own,) + RULES[post + 1:]


class Bad(unittest.TestCase):
    def bad(self, part, *args):
        self.assertEqual(error_of(Rules, *args), ("BadRules", {"part": part}), args)

    def test_clock(self):
        for p in NO_CLOCKS:
            self.bad("clock", p, ROW_OF_THREE, UNKNOWNS, RULES)
            self.bad("clock", p, None, None, None)

    def test_tree(self):
        for tree in all_odd() + [((0, 1),), [], (), 2, ROW_OF_THREE.ties, Tree, EXAMPLE, RIGHT]:
            if not isinstance(tree, Tree):
                self.bad("tree", 5, tree, UNKNOWNS, RULES)
                self.bad("tree", 5, tree, None, None)

    def test_unknowns(self):
        for unknowns in NO_COUNTS:
            self.bad("unknowns", 5, ROW_OF_THREE, unknowns, RULES)
            self.bad("unknowns", 5, ROW_OF_THREE, unknowns, None)

    def test_sixty_unknowns_and_sixty_one(self):
        tree = row_tree(8)
        none = ((),) * 8
        self.assertEqual(Rules(5, tree, (8,) * 7 + (4,), none).unknowns, (8,) * 7 + (4,))
        self.bad("unknowns", 5, tree, (8,) * 7 + (5,), none)

    def test_rules(self):
        for rules in NO_RULES:
            if isinstance(rules, tuple) and len(rules) == 3 and all(isinstance(part, tuple) for part in rules):
                self.assertTrue(any(len(part) > 8 for part in rules))
            self.bad("rules", 5, ROW_OF_THREE, UNKNOWNS, rules)

    def test_eight_rules_and_nine(self):
        for many in (0, 1, 8):
            rules = ((((1,), 1),) * many,)
            self.assertEqual(Rules(2, ONE, (1,), rules).rules, rules)
        self.bad("rules", 2, ONE, (1,), ((((1,), 1),) * 9,))

    def test_the_first_that_is_no_rule(self):
        for bad in NOT_ONE_RULE:
            self.bad((0, 0), 5, ROW_OF_THREE, UNKNOWNS, instead(0, 0, bad))
            self.bad((0, 1), 5, ROW_OF_THREE, UNKNOWNS, instead(0, 1, bad))
            self.bad((1, 0), 5, ROW_OF_THREE, UNKNOWNS, instead(1, 0, bad))
            self.bad((2, 0), 5, ROW_OF_THREE, UNKNOWNS, instead(2, 0, bad))
            self.bad((2, 3), 5, ROW_OF_THREE, UNKNOWNS, RULES[:2] + (RULES[2] * 3 + (bad, bad),))
            self.bad((1, 0), 5, ROW_OF_THREE, UNKNOWNS, (RULES[0], (bad,), (None,)))

    def test_values_at_unknowns_of_posts_that_are_not_tied(self):
        tree = Tree(((0, 1), (1, 2), (1, 3), (3, 4)))
        unknowns = (1, 1, 2, 1, 1)
        near = {0: (0, 1), 1: (0, 1, 2, 3, 4), 2: (1, 2, 3), 3: (1, 4, 5), 4: (4, 5)}
        for post in range(5):
            for place in range(6):
                row = (0,) * place + (1,) + (0,) * (5 - place)
                rules = tuple(((row, 1),) if other == post else () for other in range(5))
                if place in near[post]:
                    self.assertEqual(Rules(2, tree, unknowns, rules).rules, rules)
                else:
                    self.bad((post, 0), 2, tree, unknowns, rules)

    def test_rules_are_judged_by_the_clock(self):
        self.bad((0, 0), 3, ROW_OF_THREE, UNKNOWNS, instead(0, 0, ((1, 2, 3, 0), 2)))
        self.bad((0, 0), 3, ROW_OF_THREE, UNKNOWNS, instead(0, 0, ((1, 2, 0, 0), 3)))
        self.bad((1, 0), 3, ROW_OF_THREE, UNKNOWNS, instead(0, 0, ((1, 2, 0, 0), 2)))

    def test_sixty_rules_and_sixty_one(self):
        tree = row_tree(8)
        rule = ((0,) * 8, 1)
        right = ((rule,) * 8,) * 7
        self.assertEqual(len(Rules(5, tree, (1,) * 8, right + ((rule,) * 4,)).rules), 8)
        self.bad("many", 5, tree, (1,) * 8, right + ((rule,) * 5,))
        self.bad("many", 5, tree, (1,) * 8, right + ((rule,) * 8,))
        self.bad((7, 4), 5, tree, (1,) * 8, right + ((rule,) * 4 + (None,),))
        self.bad((7, 7), 5, tree, (1,) * 8, right + ((rule,) * 7 + (None,),))

    def test_parts_in_their_order(self):
        args = [5, ROW_OF_THREE, UNKNOWNS, RULES]
        for first, part in enumerate(["clock", "tree", "unknowns", "rules"]):
            self.bad(part, *(args[:first] + [4, None, None, None][first:]))


class Kept(unittest.TestCase):
    def test_attributes(self):
        self.assertEqual((RIGHT.p, RIGHT.tree, RIGHT.unknowns, RIGHT.rules), (5, ROW_OF_THREE, UNKNOWNS, RULES))

    def test_no_unknowns_and_no_rules(self):
        rules = Rules(2, ONE, (0,), ((((), 1), ((), 0)),))
        self.assertEqual(rules.rules, ((((), 1), ((), 0)),))
        self.assertEqual(Rules(2, ROW_OF_THREE, (0, 0, 0), ((), (), ())).unknowns, (0, 0, 0))

    def test_equal_just_if_all_are(self):
        args = [5, ROW_OF_THREE, UNKNOWNS, RULES]
        self.assertIs(RIGHT == Rules(*copy.deepcopy(args)), True)
        self.assertIs(RIGHT != Rules(*args), False)
        others = [Rules(7, ROW_OF_THREE, UNKNOWNS, RULES), Rules(5, ROW_OF_THREE, UNKNOWNS, instead(2, 0, RULES[0][1])),
                  Rules(5, ROW_OF_THREE, UNKNOWNS, RULES[:2] + ((),)),
                  Rules(5, ROW_OF_THREE, UNKNOWNS, instead(2, 0, ((0, 0, 1, 1), 3))),
                  Rules(5, star_tree(3), UNKNOWNS, ((), (), ())), Rules(5, ROW_OF_THREE, (1, 1, 2), ((), (), ()))]
        for other in others:
            self.assertIs(RIGHT == other, False)
            self.assertIs(RIGHT != other, True)
        empty = Rules(5, ROW_OF_THREE, UNKNOWNS, ((), (), ()))
        self.assertIs(empty == others[4], False)
        self.assertIs(empty == others[5], False)

    def test_equal_to_no_other_kind(self):
        for thing in all_odd() + [rule_sheet(RIGHT), RULES, (5, ROW_OF_THREE, UNKNOWNS, RULES), ROW_OF_THREE]:
            self.assertIs(RIGHT == thing, False)
            self.assertIs(RIGHT != thing, True)


class RuleSheets(unittest.TestCase):
    def test_holds_unknowns_and_wants_the_sums(self):
        for rules in some_rule_sheets(581, 60, 8, 4, 4):
            sheet = rule_sheet(rules)
            self.assertIsInstance(sheet, Sheet)
            self.assertEqual((sheet.p, sheet.tree, sheet.holds), (rules.p, rules.tree, rules.unknowns))
            self.assertEqual(sheet.wants, tuple(tuple(rule[0] for rule in own) for own in rules.rules))

    def test_known_ones(self):
        self.assertEqual(rule_sheet(RIGHT), Sheet(5, ROW_OF_THREE, UNKNOWNS,
                                                  (((1, 2, 3, 0), (0, 0, 0, 0)), ((4, 3, 2, 1),), ((0, 0, 1, 1),))))
        self.assertEqual(rule_sheet(Rules(2, ONE, (0,), ((),))), Sheet(2, ONE, (0,), ((),)))


class Changed(unittest.TestCase):
    def test_another_rule_in_the_place_of_one_or_behind_the_last(self):
        dice = Dice(582)
        for rules in some_rule_sheets(583, 60, 6, 3, 4):
            before = copy.deepcopy(rules)
            for post, own in enumerate(rules.rules):
                for number in range(len(own) + 1):
                    row, right = rule_row(dice, rules.p, rules.tree, rules.unknowns, post), dice.below(rules.p)
                    found = with_rule(rules, post, number, row, right)
                    self.assertIsInstance(found, Rules)
                    changed = list(own)
                    changed[number:number + 1] = [(row, right)]
                    self.assertEqual(found, Rules(rules.p, rules.tree, rules.unknowns, tuple(
                        tuple(changed) if other == post else rules.rules[other] for other in range(len(rules.rules)))))
                for number in range(len(own)):
                    found = without_rule(rules, post, number)
                    self.assertIsInstance(found, Rules)
                    changed = list(own)
                    del changed[number]
                    self.assertEqual(found.rules, rules.rules[:post] + (tuple(changed),) + rules.rules[post + 1:])
                    self.assertEqual((found.p, found.tree, found.unknowns), (rules.p, rules.tree, rules.unknowns))
                    self.assertEqual(with_rule(without_rule(rules, post, len(own) - 1), post, len(own) - 1, *own[-1]),
                                     rules)
            self.assertEqual(rules, before)

    def test_no_post(self):
        for post in all_odd() + [3, 4, (0,), [0], "0"]:
            self.assertEqual(error_of(with_rule, RIGHT, post, 0, (0, 0, 0, 0), 0), ("NoPost", {}))
            self.assertEqual(error_of(with_rule, RIGHT, post, None, None, None), ("NoPost", {}))
            self.assertEqual(error_of(without_rule, RIGHT, post, 0), ("NoPost", {}))
            self.assertEqual(error_of(without_rule, RIGHT, post, None), ("NoPost", {}))

    def test_no_number_of_a_rule(self):
        for number in all_odd() + [3, 4, -1, (0,), [0], "0"]:
            self.assertEqual(error_of(with_rule, RIGHT, 0, number, (0, 0, 0, 0), 0), ("NoRule", {}))
            self.assertEqual(error_of(with_rule, RIGHT, 0, number, None, None), ("NoRule", {}))
            self.assertEqual(error_of(without_rule, RIGHT, 0, number), ("NoRule", {}))
        for post, many in enumerate((2, 1, 1)):
            for number in range(5):
                due = None if number < many else ("NoRule", {})
                self.assertEqual(error_of(without_rule, RIGHT, post, number), due)
                due = None if number <= many else ("NoRule", {})
                self.assertEqual(error_of(with_rule, RIGHT, post, number, (0, 0, 0, 0), 0), due)

    def test_no_row_and_no_value(self):
        rows = all_odd() + [(), (1, 2, 3), (1, 2, 3, 0, 0), [1, 2, 3, 0], (1, 2, 5, 0), (1, -1, 0, 0), (1, True, 0, 0),
                            (1, None, 0, 0), "1230", (1, 2, 3, 1), (0, 0, 0, 4), (0, 0, 0, False), ((1, 2, 3, 0), 4), 0]
        values = all_odd() + [5, -1, 10 ** 59, "0", (0,), [0], {}]
        for number in range(3):
            for row in rows:
                self.assertEqual(error_of(with_rule, RIGHT, 0, number, row, 0), ("NoRule", {}))
            for value in values:
                self.assertEqual(error_of(with_rule, RIGHT, 0, number, (1, 2, 3, 0), value), ("NoRule", {}))
        self.assertEqual(error_of(with_rule, RIGHT, 2, 0, (1, 0, 0, 0), 0), ("NoRule", {}))
        self.assertEqual(error_of(with_rule, RIGHT, 1, 0, (1, 1, 1, 1), 0), None)

    def test_a_ninth_rule(self):
        rules = Rules(2, ONE, (1,), ((((1,), 1),) * 7,))
        eight = with_rule(rules, 0, 7, (0,), 0)
        self.assertEqual(len(eight.rules[0]), 8)
        self.assertEqual(error_of(with_rule, eight, 0, 8, (0,), 0), ("NoRule", {}))
        self.assertEqual(with_rule(eight, 0, 7, (1,), 1).rules, ((((1,), 1),) * 8,))
        self.assertEqual(without_rule(eight, 0, 7), rules)

    def test_a_sixty_first_rule(self):
        rule = ((0,) * 8, 1)
        rules = Rules(5, row_tree(8), (1,) * 8, ((rule,) * 8,) * 7 + ((rule,) * 3,))
        sixty = with_rule(rules, 7, 3, *rule)
        self.assertEqual(error_of(with_rule, sixty, 7, 4, *rule), ("NoRule", {}))
        self.assertEqual(with_rule(sixty, 7, 3, *rule), sixty)
        self.assertEqual(without_rule(sixty, 7, 0), rules)


if __name__ == "__main__":
    unittest.main()
