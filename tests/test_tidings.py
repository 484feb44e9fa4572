"""What is told of rules over each way and at each post."""

import copy
import unittest

from sametolls.clocks import ladder
from sametolls.rulesheets import Rules, rule_sheet, with_rule, without_rule
from sametolls.solving import changed_ways, contradiction, solution, sure_values, tidings, told_at
from sametolls.trees import Tree, ways
from tests.support import (EXAMPLE, ROW_OF_THREE, Dice, all_odd, all_rows, error_of, mix, near_posts, numbers_at, room,
                           row_tree, rule_row, some_counts, some_rule_sheets, some_rules, star_tree)

ONE = Tree(())
SMALL = some_rule_sheets(601, 80, 4, 1, 2, (2, 3)) + some_rule_sheets(602, 40, 3, 2, 2, (2,))
OTHERS = some_rule_sheets(603, 50, 7, 3, 3)
# a + 2b = 3 at post 0, b + c = 1 and 2c = 4 at post 1, nothing at post 2, modulo 5.
KNOWN = Rules(5, ROW_OF_THREE, (1, 1, 1), ((((1, 2, 0), 3),), (((0, 1, 1), 1), ((0, 0, 2), 4)), ()))
WRONG = Rules(5, ROW_OF_THREE, (1, 1, 1), ((((0, 0, 0), 3),), (((0, 1, 1), 1),), ()))
NO_WAYS = all_odd() + [(0, 2), (2, 0), (0, 0), (0, 3), (-1, 0), [0, 1], (True, 0), (0, True), (0, 1, 2), (), (0,),
                       ((0, 1),), ("0", "1"), (0, [1]), {}, (0, 10 ** 59)]


def left_over(rules, posts, kept):
    """The set of what comes of the rules of some posts, added up in all ways, if no unknown but those kept is left."""
    wide = sum(rules.unknowns)
    rows = [row + (right,) for post in posts for row, right in rules.rules[post]]
    found = set()
    for factors in all_rows(rules.p, len(rows)):
        row = mix(rules.p, wide + 1, factors, rows)
        if not any(value for place, value in enumerate(row[:wide]) if place not in kept):
            found.add(tuple(row[place] for place in kept) + row[wide:])
    return found


def places_at(rules, post):
    """The places of the unknowns of a post."""
    return numbers_at(rule_sheet(rules), post)


def spread_out(rules, kept, rows):
    """Rows of the unknowns kept, and one value more, with noughts for all others."""
    wide = sum(rules.unknowns)
    return [tuple(row[kept.index(place)] if place in kept else 0 for place in range(wide)) + row[-1:] for row in rows]


def eliminated(rules, rows, kept):
    """The ladder of the mixtures of rows in which no unknown is left but those kept."""
    wide = sum(rules.unknowns)
    order = [place for place in range(wide) if place not in kept] + list(kept) + [wide]
    found = ladder(rules.p, wide + 1, [tuple(row[place] for place in order) for row in rows])
    gone = wide - len(kept)
    return tuple(row[gone:] for row in found if not any(row[:gone]))


def own_rows(rules, post):
    """The rows of a post's rules, right sums last."""
    return [row + (right,) for row, right in rules.rules[post]]


def heard_rows(rules, post, there):
    """The tidings over all ways to a post but that from there, with noughts for all other unknowns."""
    found = []
    for way in ways(rules.tree):
        if way[1] == post and way[0] != there:
            found += spread_out(rules, places_at(rules, way[0]) + places_at(rules, post), tidings(rules, way))
    return found


class Tidings(unittest.TestCase):
    def test_against_all_mixtures_of_the_rules_this_side(self):
        rows = 0
        for rules in SMALL:
            for here, there in ways(rules.tree):
                kept = places_at(rules, here) + places_at(rules, there)
                found = tidings(rules, (here, there))
                self.assertIsInstance(found, tuple)
                due = left_over(rules, near_posts(rules.tree, (here, there)), kept)
                self.assertEqual(room(rules.p, len(kept) + 1, found), due)
                self.assertEqual(found, ladder(rules.p, len(kept) + 1, found))
                rows += len(found)
        self.assertGreater(rows, 100)

    def test_by_the_fact_of_tidings(self):
        for rules in OTHERS + [some_rules(Dice(5), 999983, row_tree(24), (2, 3) * 12, (3, 2) * 12),
                               some_rules(Dice(6), 2, star_tree(24, 7), (3, 2) * 12, (2, 3) * 12)]:
            for here, there in ways(rules.tree):
                rows = own_rows(rules, here) + heard_rows(rules, here, there)
                self.assertEqual(tidings(rules, (here, there)),
                                 eliminated(rules, rows, places_at(rules, here) + places_at(rules, there)))

    def test_known_ones(self):
        self.assertEqual(tidings(KNOWN, (0, 1)), ((1, 2, 3),))
        self.assertEqual(tidings(KNOWN, (1, 0)), ((1, 0, 4),))
        self.assertEqual(tidings(KNOWN, (1, 2)), ((1, 0, 4), (0, 1, 2)))
        self.assertEqual(tidings(KNOWN, (2, 1)), ())

    def test_unknowns_of_here_stand_ahead_of_those_there(self):
        rules = Rules(5, Tree(((0, 1),)), (1, 1), ((((1, 2), 3),), (((1, 2), 4),)))
        self.assertEqual(tidings(rules, (0, 1)), ((1, 2, 3),))
        self.assertEqual(tidings(rules, (1, 0)), ((1, 3, 2),))

    def test_rules_that_contradict_one_another(self):
        self.assertEqual(tidings(WRONG, (0, 1)), ((0, 0, 1),))
        self.assertEqual(tidings(WRONG, (1, 0)), ())
        self.assertEqual(tidings(WRONG, (1, 2)), ((1, 1, 0), (0, 0, 1)))
        self.assertEqual(tidings(WRONG, (2, 1)), ())
        for rules in SMALL:
            for way in ways(rules.tree):
                near = near_posts(rules.tree, way)
                cut = Rules(rules.p, rules.tree, rules.unknowns,
                            tuple(own if post in near else () for post, own in enumerate(rules.rules)))
                found = tidings(rules, way)
                self.assertIs((0,) * len(found[0][:-1]) + (1,) in found if found else False,
                              contradiction(cut) is not None)

    def test_no_way(self):
        for thing in NO_WAYS:
            self.assertEqual(error_of(tidings, KNOWN, thing), ("NoWay", {}))


class ToldAt(unittest.TestCase):
    def test_against_all_mixtures_of_all_rules(self):
        rows = 0
        for rules in SMALL:
            for post in range(rules.tree.posts):
                kept = places_at(rules, post)
                found = told_at(rules, post)
                self.assertIsInstance(found, tuple)
                self.assertEqual(room(rules.p, len(kept) + 1, found), left_over(rules, range(rules.tree.posts), kept))
                self.assertEqual(found, ladder(rules.p, len(kept) + 1, found))
                rows += len(found)
        self.assertGreater(rows, 100)

    def test_by_the_fact_of_tidings(self):
        for rules in OTHERS + [some_rules(Dice(7), 999983, row_tree(24), (2, 3) * 12, (3, 2) * 12)]:
            for post in range(rules.tree.posts):
                rows = own_rows(rules, post) + heard_rows(rules, post, None)
                self.assertEqual(told_at(rules, post), eliminated(rules, rows, places_at(rules, post)))

    def test_values_that_are_sure_are_told(self):
        for rules in OTHERS:
            for post in range(rules.tree.posts):
                found = told_at(rules, post)
                values = sure_values(rules, post)
                if values is None:
                    self.assertIsNone(solution(rules))
                    self.assertEqual(found[-1], (0,) * rules.unknowns[post] + (1,))
                    continue
                for place, value in enumerate(values):
                    row = (0,) * place + (1,) + (0,) * (rules.unknowns[post] - place - 1)
                    told = [rung[-1] for rung in found if rung[:-1] == row]
                    self.assertEqual(told, [] if value is None else [value])

    def test_known_ones(self):
        self.assertEqual([told_at(KNOWN, post) for post in range(3)], [((1, 0),), ((1, 4),), ((1, 2),)])
        self.assertEqual([told_at(WRONG, post) for post in range(3)], [((0, 1),)] * 3)
        self.assertEqual(told_at(Rules(5, ONE, (2,), ((((2, 1), 3),),)), 0), ((1, 3, 4),))
        self.assertEqual(told_at(Rules(5, ONE, (0,), ((((), 0),),)), 0), ())

    def test_no_post(self):
        for post in all_odd() + [3, 4, -1, (0,), [0], "0", 10 ** 59]:
            self.assertEqual(error_of(told_at, KNOWN, post), ("NoPost", {}))
            self.assertEqual(error_of(told_at, WRONG, post), ("NoPost", {}))


class ChangedWays(unittest.TestCase):
    def check(self, rules, other):
        found = changed_ways(rules, other)
        self.assertIsInstance(found, tuple)
        self.assertEqual(found, changed_ways(other, rules))
        unlike = [post for post in range(rules.tree.posts) if rules.rules[post] != other.rules[post]]
        due = []
        for here, there in ways(rules.tree):
            near = near_posts(rules.tree, (here, there))
            kept = places_at(rules, here) + places_at(rules, there)
            if left_over(rules, near, kept) != left_over(other, near, kept):
                due.append((here, there))
                self.assertTrue(any(post in near for post in unlike))
        self.assertEqual(found, tuple(due))
        return len(found)

    def test_edits_at_one_post_and_at_several(self):
        dice = Dice(604)
        changed = 0
        for rules in SMALL[:60]:
            self.assertEqual(changed_ways(rules, rules), ())
            other = rules
            for _ in range(3):
                post = dice.below(rules.tree.posts)
                row = rule_row(dice, rules.p, rules.tree, rules.unknowns, post)
                number = dice.below(len(other.rules[post]) + 1)
                if number == 2:
                    other = without_rule(other, post, dice.below(2))
                else:
                    other = with_rule(other, post, number, row, dice.below(rules.p))
                changed += self.check(rules, other)
        self.assertGreater(changed, 50)

    def test_known_ones(self):
        other = without_rule(KNOWN, 0, 0)
        self.assertEqual(changed_ways(KNOWN, other), ((0, 1),))
        self.assertEqual(changed_ways(other, KNOWN), ((0, 1),))
        self.assertEqual(changed_ways(KNOWN, with_rule(KNOWN, 1, 1, (0, 0, 2), 3)), ((1, 0), (1, 2)))
        # Twice a rule tells just what it told.
        self.assertEqual(changed_ways(KNOWN, with_rule(KNOWN, 0, 0, (2, 4, 0), 1)), ())
        self.assertEqual(changed_ways(KNOWN, with_rule(KNOWN, 2, 0, (0, 1, 1), 1)), ((2, 1),))
        self.assertEqual(changed_ways(KNOWN, WRONG), ((0, 1), (1, 0), (1, 2)))

    def test_great_ones(self):
        dice = Dice(605)
        for tree in (row_tree(24), star_tree(24, 3)):
            rules = some_rules(dice, 999983, tree, some_counts(dice, 24, 60), some_counts(dice, 24, 59))
            post = next(post for post in range(24) if len(rules.rules[post]) < 8)
            other = with_rule(rules, post, len(rules.rules[post]), *rules.rules[post][0]) if rules.rules[post] else rules
            self.assertEqual(changed_ways(rules, other), ())

    def test_not_alike(self):
        none = ((), (), ())
        rules = Rules(5, ROW_OF_THREE, (1, 1, 1), none)
        for other in (Rules(7, ROW_OF_THREE, (1, 1, 1), none), Rules(5, star_tree(3), (1, 1, 1), none),
                      Rules(5, ROW_OF_THREE, (1, 1, 0), none), Rules(5, ROW_OF_THREE, (1, 0, 2), none)):
            self.assertEqual(error_of(changed_ways, rules, other), ("NotAlike", {}))
            self.assertEqual(error_of(changed_ways, other, rules), ("NotAlike", {}))
        for thing in all_odd() + [rule_sheet(rules), none, EXAMPLE, ROW_OF_THREE]:
            self.assertEqual(error_of(changed_ways, rules, thing), ("NotAlike", {}))

    def test_rules_stay_as_they_were(self):
        rules = copy.deepcopy(KNOWN)
        tidings(rules, (0, 1))
        told_at(rules, 1)
        sure_values(rules, 1)
        changed_ways(rules, WRONG)
        self.assertEqual(rules, KNOWN)


if __name__ == "__main__":
    unittest.main()
