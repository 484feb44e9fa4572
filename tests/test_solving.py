"""Solutions of rules, contradictions, and rules worked out."""

import copy
import unittest
from itertools import product

from sametolls.clocks import ladder, rank
from sametolls.rulesheets import Rules, rule_sheet
from sametolls.sheets import Sheet
from sametolls.solving import (are_sure, contradiction, is_contradiction, is_solution, loose, many_solutions, solution,
                               sure_values, worked_out)
from sametolls.tolls import tolls
from sametolls.trees import Tree
from tests.support import (ROW_OF_THREE, Dice, add, all_odd, all_rows, all_wanted, dealt, dot, error_of, flat, mix,
                           near_posts, numbers_at, room, row_tree, rule_row, some_counts, some_rule_sheets,
                           some_rules, some_tree, star_tree, times)

ONE = Tree(())
PAIR = Tree(((0, 1),))
SMALL = some_rule_sheets(591, 90, 4, 1, 2, (2, 3)) + some_rule_sheets(592, 30, 2, 2, 3, (2, 3))
OTHERS = some_rule_sheets(593, 80, 6, 3, 3)
# x + 2y = 3, 2x + y + z = 1, z = 4 modulo 5, posts in a row.
KNOWN = Rules(5, ROW_OF_THREE, (1, 1, 1), ((((1, 2, 0), 3),), (((2, 1, 1), 1),), (((0, 0, 1), 4),)))
MANY = Rules(5, ROW_OF_THREE, (1, 1, 1), ((((1, 2, 0), 3),), (), (((0, 0, 1), 4),)))
NONE = Rules(5, ROW_OF_THREE, (1, 1, 1), ((((1, 2, 0), 3),), (((2, 4, 0), 3),), (((0, 0, 1), 4),)))
EMPTY = Rules(2, ROW_OF_THREE, (0, 0, 0), ((), (), ()))


def great_rules(dice, p, tree):
    """Rules for sixty unknowns, sixty of them."""
    return some_rules(dice, p, tree, some_counts(dice, tree.posts, 60), some_counts(dice, tree.posts, 60))


def sure_rules(seed, count, most_posts=6):
    """Rules that are sure whatever their rights are; posts may have more rules than unknowns, or less."""
    dice = Dice(seed)
    found = []
    while len(found) < count:
        posts = 1 + dice.below(most_posts)
        tree = [row_tree(posts), star_tree(posts, dice.below(posts)), some_tree(dice, posts)][dice.below(3)]
        total = dice.below(min(6, 8 * posts) + 1)
        unknowns, counts = some_counts(dice, posts, total), some_counts(dice, posts, total)
        rules = some_rules(dice, (2, 3, 101, 999983)[dice.below(4)], tree, unknowns, counts)
        rows = [row for own in rules.rules for row, _ in own]
        if rank(rules.p, total, rows) == total and (total or dice.below(9) == 0):
            found.append(rules)
    return found


SURE = sure_rules(594, 60)


def holds_for(rules, values):
    """Whether all rules hold for values."""
    return all(dot(rules.p, row, values) == right for own in rules.rules for row, right in own)


def all_solutions(rules):
    """The ascending list of all solutions, by going through all values."""
    return [values for values in all_rows(rules.p, sum(rules.unknowns)) if holds_for(rules, values)]


def counts_of(rules):
    """How many rules each post has."""
    return tuple(len(own) for own in rules.rules)


def adds_up(rules, factors):
    """What all rules, each so many times, add up to, right sums last."""
    rows = [row + (right,) for own in rules.rules for row, right in own]
    return mix(rules.p, sum(rules.unknowns) + 1, factors, rows)


class Solutions(unittest.TestCase):
    def test_the_least_one_of_all(self):
        many = {0: 0, 1: 0, 2: 0}
        for rules in SMALL:
            found = all_solutions(rules)
            many[min(2, len(found))] += 1
            self.assertEqual(solution(rules), found[0] if found else None)
            self.assertEqual(many_solutions(rules), len(found))
            for values in all_rows(rules.p, sum(rules.unknowns)):
                self.assertIs(is_solution(rules, values), values in found)
        self.assertGreater(min(many.values()), 10)

    def test_one_solution_or_contradiction(self):
        told = {True: 0, False: 0}
        for rules in OTHERS + [great_rules(Dice(3), 999983, row_tree(24)), great_rules(Dice(4), 2, star_tree(24))]:
            found, against = solution(rules), contradiction(rules)
            told[found is None] += 1
            self.assertIs(found is None, against is not None)
            if found is not None:
                self.assertIsInstance(found, tuple)
                self.assertTrue(holds_for(rules, found))
                self.assertIs(is_solution(rules, found), True)
                self.assertEqual(many_solutions(rules), rules.p ** len(loose(rules)))
                for row in loose(rules):
                    self.assertTrue(holds_for(rules, add(rules.p, found, row)))
                    # The least one is 0 where a loose row begins.
                    self.assertEqual(found[row.index(1)], 0)
            else:
                self.assertEqual(many_solutions(rules), 0)
        self.assertGreater(min(told.values()), 10)

    def test_known_ones(self):
        self.assertEqual(solution(KNOWN), (2, 3, 4))
        self.assertEqual(many_solutions(KNOWN), 1)
        self.assertEqual(solution(MANY), (0, 4, 4))
        self.assertEqual(many_solutions(MANY), 5)
        self.assertEqual(loose(MANY), ((1, 2, 0),))
        self.assertIsNone(solution(NONE))
        self.assertEqual(many_solutions(NONE), 0)
        self.assertEqual((solution(EMPTY), many_solutions(EMPTY), loose(EMPTY)), ((), 1, ()))
        self.assertIsNone(solution(Rules(2, ONE, (0,), ((((), 1),),))))
        self.assertEqual(solution(Rules(2, ONE, (0,), ((((), 0),),))), ())

    def test_sixty_unknowns_without_rules(self):
        tree = row_tree(8)
        rules = Rules(999983, tree, (8,) * 7 + (4,), ((),) * 8)
        self.assertEqual(many_solutions(rules), 999983 ** 60)
        self.assertEqual(solution(rules), (0,) * 60)
        self.assertEqual(len(loose(rules)), 60)

    def test_things_that_are_no_solution(self):
        values = solution(KNOWN)
        self.assertIs(is_solution(KNOWN, values), True)
        for thing in all_odd() + [(), values[:2], values + (0,), list(values), (values,), str(values), 0,
                                  {place: value for place, value in enumerate(values)}]:
            self.assertIs(is_solution(KNOWN, thing), False)
        for place in range(3):
            for other in all_odd() + [values[place] + 5, values[place] - 5, 10 ** 59, str(values[place]), (values[place],)]:
                self.assertIs(is_solution(KNOWN, values[:place] + (other,) + values[place + 1:]), False)
        ones = Rules(2, PAIR, (1, 1), ((((1, 1), 0),), ()))
        self.assertIs(is_solution(ones, (1, 1)), True)
        self.assertIs(is_solution(ones, (True, True)), False)
        self.assertIs(is_solution(ones, (0, False)), False)


class Loose(unittest.TestCase):
    def test_all_rows_that_leave_solutions_solutions(self):
        for rules in SMALL:
            wide = sum(rules.unknowns)
            rows = [row for own in rules.rules for row, _ in own]
            free = [row for row in all_rows(rules.p, wide) if not any(dot(rules.p, row, rule) for rule in rows)]
            found = loose(rules)
            self.assertIsInstance(found, tuple)
            self.assertEqual(found, ladder(rules.p, wide, found))
            self.assertEqual(room(rules.p, wide, found), set(free))

    def test_whatever_the_rights_are(self):
        dice = Dice(595)
        for rules in OTHERS:
            other = Rules(rules.p, rules.tree, rules.unknowns, tuple(
                tuple((row, dice.below(rules.p)) for row, _ in own) for own in rules.rules))
            self.assertEqual(loose(rules), loose(other))
            self.assertEqual(loose(rules), ladder(rules.p, sum(rules.unknowns), loose(rules)))
        self.assertEqual(loose(NONE), ((1, 2, 0),))


class Contradictions(unittest.TestCase):
    def test_all_gone_through(self):
        there_are = 0
        for rules in SMALL:
            counts = counts_of(rules)
            wrong = (0,) * sum(rules.unknowns) + (1,)
            against = [factors for factors in all_rows(rules.p, sum(counts)) if adds_up(rules, factors) == wrong]
            found = contradiction(rules)
            self.assertIs(found is None, not against)
            if found is not None:
                there_are += 1
                self.assertEqual(dealt(counts, flat(found)), found)
                self.assertIn(tuple(flat(found)), against)
            for factors in all_rows(rules.p, sum(counts)):
                self.assertIs(is_contradiction(rules, dealt(counts, factors)), factors in against)
        self.assertGreater(there_are, 15)

    def test_great_ones(self):
        there_are = 0
        for seed in range(6):
            rules = great_rules(Dice(seed), (2, 101, 999983)[seed % 3], [row_tree(24), star_tree(24, 9)][seed % 2])
            found = contradiction(rules)
            if found is not None:
                there_are += 1
                self.assertIs(is_contradiction(rules, found), True)
                self.assertEqual(adds_up(rules, flat(found)), (0,) * 60 + (1,))
        self.assertGreater(there_are, 1)

    def test_known_ones(self):
        found = contradiction(NONE)
        self.assertEqual(adds_up(NONE, flat(found)), (0, 0, 0, 1))
        self.assertEqual(found[2], (0,))
        self.assertIsNone(contradiction(MANY))
        self.assertIsNone(contradiction(KNOWN))
        self.assertIsNone(contradiction(EMPTY))
        self.assertEqual(contradiction(Rules(5, ONE, (0,), ((((), 2),),))), ((3,),))

    def test_things_that_are_no_contradiction(self):
        found = contradiction(NONE)
        self.assertIs(is_contradiction(NONE, found), True)
        for thing in all_odd() + [(), found[:2], found + ((),), list(found), tuple(flat(found)), found[::-1][:2], 0,
                                  (found,), str(found), {post: found[post] for post in range(3)}]:
            self.assertIs(is_contradiction(NONE, thing), False)
        for post in range(3):
            value = found[post][0]
            for own in all_odd() + [(), [value], (value, 0), (value + 5,), (value - 5,), (str(value),), ((value,),),
                                    ([value],), value, (bool(value),), (None,), (10 ** 59,), ((value + 1) % 5,)]:
                self.assertIs(is_contradiction(NONE, found[:post] + (own,) + found[post + 1:]), False)
        # Twice a contradiction the rights add up to 2, which is none.
        self.assertIs(is_contradiction(NONE, tuple(times(5, 2, own) for own in found)), False)
        flags = Rules(2, ONE, (0,), ((((), 1), ((), 0)),))
        self.assertIs(is_contradiction(flags, ((1, 0),)), True)
        self.assertIs(is_contradiction(flags, ((1, 1),)), True)
        self.assertIs(is_contradiction(flags, ((True, 0),)), False)
        self.assertIs(is_contradiction(flags, ((1, False),)), False)


class SureValues(unittest.TestCase):
    def test_those_that_all_solutions_share(self):
        sure = {True: 0, False: 0}
        for rules in SMALL:
            every = all_solutions(rules)
            sheet = rule_sheet(rules)
            for post in range(rules.tree.posts):
                found = sure_values(rules, post)
                if not every:
                    self.assertIsNone(found)
                    continue
                columns = [{values[place] for values in every} for place in numbers_at(sheet, post)]
                self.assertIsInstance(found, tuple)
                self.assertEqual(found, tuple(column.pop() if len(column) == 1 else None for column in columns))
                for value in found:
                    sure[value is None] += 1
        self.assertGreater(min(sure.values()), 20)

    def test_known_ones(self):
        self.assertEqual([sure_values(MANY, post) for post in range(3)], [(None,), (None,), (4,)])
        self.assertEqual([sure_values(NONE, post) for post in range(3)], [None, None, None])
        self.assertEqual(flat(sure_values(KNOWN, post) for post in range(3)), list(solution(KNOWN)))
        self.assertEqual(sure_values(EMPTY, 1), ())
        self.assertEqual(sure_values(Rules(5, ONE, (2,), ((((0, 2), 0),),)), 0), (None, 0))

    def test_no_post(self):
        for post in all_odd() + [3, 4, -1, (0,), [0], "0", 10 ** 59]:
            for rules in (KNOWN, MANY, NONE):
                self.assertEqual(error_of(sure_values, rules, post), ("NoPost", {}))


class WorkedOut(unittest.TestCase):
    def test_sure_just_if_one_solution_whatever_the_rights(self):
        told = {True: 0, False: 0}
        for rules in some_rule_sheets(596, 150, 3, 1, 2, (2,)) + sure_rules(597, 10, 3):
            many = counts_of(rules)
            if rules.p ** (sum(many) + sum(rules.unknowns)) > 5000:
                continue
            sure = True
            for rights in product(range(rules.p), repeat=sum(many)):
                dealt_out = dealt(many, rights)
                other = Rules(rules.p, rules.tree, rules.unknowns, tuple(
                    tuple((row, right) for (row, _), right in zip(own, new)) for own, new in zip(rules.rules, dealt_out)))
                sure = sure and len(all_solutions(other)) == 1
            told[sure] += 1
            self.assertIs(are_sure(rules), sure)
        self.assertGreater(min(told.values()), 10)

    def test_gives_the_solution_back(self):
        for rules in SURE:
            self.assertIs(are_sure(rules), True)
            sheet = worked_out(rules)
            self.assertIsInstance(sheet, Sheet)
            self.assertEqual((sheet.p, sheet.tree), (rules.p, rules.tree))
            self.assertEqual(sheet.holds, counts_of(rules))
            self.assertEqual(tuple(len(rows) for rows in sheet.wants), rules.unknowns)
            rights = tuple(right for own in rules.rules for _, right in own)
            self.assertEqual(all_wanted(sheet, rights), dealt(rules.unknowns, solution(rules)))
            self.assertEqual(many_solutions(rules), 1)

    def test_noughts_where_pivots_would_stand(self):
        # Each rule is of the unknown of the other post alone.
        crossed = Rules(7, PAIR, (1, 1), ((((0, 2), 3),), (((3, 0), 6),)))
        self.assertEqual(worked_out(crossed).wants, (((0, 5),), ((4, 0),)))
        self.assertEqual(all_wanted(worked_out(crossed), (3, 6)), ((2,), (5,)))
        self.assertEqual(tolls(worked_out(crossed)), {(0, 1): 1, (1, 0): 1})
        # Post 1 has all rules, the first unknown of each post is in the second rule alone.
        rules = Rules(2, PAIR, (1, 2), ((), (((0, 0, 1), 1), ((1, 1, 0), 0), ((1, 1, 1), 1))))
        self.assertIs(are_sure(rules), False)
        rules = Rules(2, PAIR, (1, 2), ((), (((0, 0, 1), 1), ((1, 1, 0), 0), ((0, 1, 1), 1))))
        self.assertIs(are_sure(rules), True)
        self.assertEqual(all_wanted(worked_out(rules), (1, 0, 1)), ((0,), (0, 1)))
        self.assertEqual(tolls(worked_out(rules)), {(0, 1): 0, (1, 0): 1})

    def test_tolls_by_the_fact_of_pivots(self):
        above = 0
        for rules in SURE:
            found = tolls(worked_out(rules))
            sheet = rule_sheet(rules)
            for here, there in found:
                near = near_posts(rules.tree, (here, there))
                places = numbers_at(sheet, here)
                rows = [tuple(row[place] for place in places) for row, _ in rules.rules[there]]
                more = sum(len(rules.rules[post]) - rules.unknowns[post] for post in near)
                above += more != 0
                self.assertEqual(found[here, there], rank(rules.p, len(places), rows) + more)
        self.assertGreater(above, 20)

    def test_great_ones(self):
        dice = Dice(598)
        tree = row_tree(24)
        holds = some_counts(dice, 24, 60)
        rules = None
        while rules is None or not are_sure(rules):
            rules = Rules(999983, tree, holds, tuple(
                tuple((tuple((value + 1) % 999983 if value else 0 for value in rule_row(dice, 999983, tree, holds, post)),
                       dice.below(999983)) for _ in range(holds[post])) for post in range(24)))
        rights = tuple(right for own in rules.rules for _, right in own)
        self.assertEqual(tuple(flat(all_wanted(worked_out(rules), rights))), solution(rules))

    def test_not_sure(self):
        for rules in (MANY, NONE, Rules(2, ONE, (1,), ((((1,), 1), ((1,), 1)),)), Rules(2, ONE, (0,), ((((), 0),),)),
                      Rules(2, ONE, (1,), ((((0,), 0),),)), Rules(2, ONE, (1,), ((),))):
            self.assertIs(are_sure(rules), False)
            self.assertEqual(error_of(worked_out, rules), ("NotSure", {}))
        self.assertIs(are_sure(EMPTY), True)
        self.assertEqual(worked_out(EMPTY), Sheet(2, ROW_OF_THREE, (0, 0, 0), ((), (), ())))

    def test_rules_stay_as_they_were(self):
        rules = copy.deepcopy(KNOWN)
        for call in (solution, many_solutions, loose, contradiction, are_sure, worked_out):
            call(rules)
        self.assertEqual(rules, KNOWN)


if __name__ == "__main__":
    unittest.main()
