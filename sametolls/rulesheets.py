"""Rules along a tree: sums of the unknowns of posts that are to be right."""

from sametolls.clocks import is_clock
from sametolls.errors import BadRules, NoPost, NoRule
from sametolls.kinds import is_below, is_pair, is_row
from sametolls.sheets import MOST_AT_POST, MOST_IN_ALL, Sheet, are_counts, own_places
from sametolls.trees import Tree, tied


class Rules:
    """A clock, a tree, how many unknowns each post has, and the rules of each: pairs of a row and its right sum."""

    def __init__(self, p, tree, unknowns, rules):
        if not is_clock(p):
            raise BadRules("clock")
        if not isinstance(tree, Tree):
            raise BadRules("tree")
        if not are_counts(tree, unknowns):
            raise BadRules("unknowns")
        check_rules(p, tree, unknowns, rules)
        self.p = p
        self.tree = tree
        self.unknowns = unknowns
        self.rules = rules

    def __eq__(self, other):
        return (isinstance(other, Rules) and self.p == other.p and self.tree == other.tree
                and self.unknowns == other.unknowns and self.rules == other.rules)


def check_rules(p, tree, unknowns, rules):
    """Raise the error that is due for what does not tell the rules of each post."""
    if not isinstance(rules, tuple) or len(rules) != tree.posts:
        raise BadRules("rules")
    if not all([isinstance(own, tuple) and len(own) <= MOST_AT_POST for own in rules]):
        raise BadRules("rules")
    for post, own in enumerate(rules):
        near = near_unknowns(tree, unknowns, post)
        for number, rule in enumerate(own):
            if not is_rule(p, sum(unknowns), near, rule):
                raise BadRules((post, number))
    if sum([len(own) for own in rules]) > MOST_IN_ALL:
        raise BadRules("many")


def near_unknowns(tree, unknowns, post):
    """The unknowns of a post and of the posts tied to it."""
    return [place for near in (post,) + tied(tree, post) for place in own_places(unknowns, near)]


def is_rule(p, wide, near, thing):
    """Whether a thing is a pair of a row of so many values, 0 but at some places that are near, and a value."""
    if not is_pair(thing) or not is_row(thing[0], p, wide) or not is_below(thing[1], p):
        return False
    return all([value == 0 or place in near for place, value in enumerate(thing[0])])


def rule_sheet(rules):
    """The sheet in which each post holds its unknowns and wants the sums of its rules."""
    wants = tuple([tuple([row for row, _ in own]) for own in rules.rules])
    return Sheet(rules.p, rules.tree, rules.unknowns, wants)


def with_rule(rules, post, number, row, right):
    """Rules with another rule in the place of one of a post, or behind its last one."""
    if not is_below(post, rules.tree.posts):
        raise NoPost()
    own = rules.rules[post]
    near = near_unknowns(rules.tree, rules.unknowns, post)
    if not is_below(number, len(own) + 1) or not is_rule(rules.p, sum(rules.unknowns), near, (row, right)):
        raise NoRule()
    if number == len(own) and (len(own) == MOST_AT_POST or rules_in_all(rules) == MOST_IN_ALL):
        raise NoRule()
    return with_own(rules, post, own[:number] + ((row, right),) + own[number + 1:])


def without_rule(rules, post, number):
    """Rules without one of a post."""
    if not is_below(post, rules.tree.posts):
        raise NoPost()
    own = rules.rules[post]
    if not is_below(number, len(own)):
        raise NoRule()
    return with_own(rules, post, own[:number] + own[number + 1:])


def rules_in_all(rules):
    """How many rules all posts have together."""
    return sum([len(own) for own in rules.rules])


def with_own(rules, post, own):
    """Rules with others of one post."""
    changed = rules.rules[:post] + (own,) + rules.rules[post + 1:]
    return Rules(rules.p, rules.tree, rules.unknowns, changed)
