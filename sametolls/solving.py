"""Solving rules along a tree, and what is told of them over each way."""

from sametolls.clocks import cleared, kernel_of, ladder_of, mixtures, power, product_of, rungs_of
from sametolls.errors import NoPost, NotAlike, NotSure, NoWay
from sametolls.kinds import is_below, is_row
from sametolls.rulesheets import Rules, rule_sheet
from sametolls.sheets import by_posts, cut, own_places
from sametolls.trees import is_way, this_side, ways
from sametolls.undoing import can_be_undone, undone


def solution(rules):
    """The least solution, or None."""
    wide = sum(rules.unknowns)
    rungs = rungs_of(rules.p, wide + 1, all_rules(rules))[0]
    if wide in rungs:
        return None
    found = tuple([rungs[place][wide] if place in rungs else 0 for place in range(wide)])
    # Whatever the loose rows can make 0 from the first place on is 0 in the least one.
    return cleared(rules.p, rungs_of(rules.p, wide, loose(rules))[0], found)


def is_solution(rules, thing):
    """Whether a thing is a tuple of values by which all rules hold."""
    if not is_row(thing, rules.p, sum(rules.unknowns)):
        return False
    return all([product_of(rules.p, row, thing + (-1,)) == 0 for row in all_rules(rules)])


def many_solutions(rules):
    """How many solutions there are."""
    if solution(rules) is None:
        return 0
    return power(rules.p, len(loose(rules)))


def loose(rules):
    """The ladder of all rows that can be added to solutions."""
    wide = sum(rules.unknowns)
    return kernel_of(rules.p, wide, [row[:wide] for row in all_rules(rules)])


def contradiction(rules):
    """How many times each rule goes into noughts whose right sum is 1, post by post, or None."""
    wide = sum(rules.unknowns)
    found = mixtures(rules.p, wide + 1, all_rules(rules), [(0,) * wide + (1,)])[0]
    return None if found is None else by_posts(rule_counts(rules), found)


def is_contradiction(rules, thing):
    """Whether a thing tells how many times each rule goes into noughts whose right sum is 1."""
    counts = rule_counts(rules)
    if not isinstance(thing, tuple) or len(thing) != len(counts):
        return False
    if not all([is_row(values, rules.p, count) for values, count in zip(thing, counts)]):
        return False
    factors = [value for values in thing for value in values]
    rows = all_rules(rules)
    wide = sum(rules.unknowns)
    sums = [product_of(rules.p, factors, [row[place] for row in rows]) for place in range(wide + 1)]
    return sums == [0] * wide + [1]


def tidings(rules, way):
    """The ladder of what the rules this side of a way tell of the unknowns of its two posts alone."""
    if not is_way(rules.tree, way):
        raise NoWay()
    here, there = way
    kept = own_places(rules.unknowns, here) + own_places(rules.unknowns, there)
    return told_of(rules, this_side(rules.tree, way), kept)


def told_at(rules, post):
    """The ladder of what all rules tell of the unknowns of a post alone."""
    check_post(rules, post)
    return told_of(rules, every_post(rules), own_places(rules.unknowns, post))


def sure_values(rules, post):
    """For each unknown of a post its value if it is the same in all solutions, else None; None without any."""
    check_post(rules, post)
    found = solution(rules)
    if found is None:
        return None
    rows = loose(rules)
    own = own_places(rules.unknowns, post)
    return tuple([None if any([row[place] for row in rows]) else found[place] for place in own])


def are_sure(rules):
    """Whether there is just one solution, whatever the rights are."""
    return can_be_undone(rule_sheet(rules))


def worked_out(rules):
    """The sheet in which each post holds the rights of its rules, and wants the values of its unknowns."""
    if not are_sure(rules):
        raise NotSure()
    return undone(rule_sheet(rules))


def changed_ways(rules, other):
    """The ascending tuple of the ways over which the tidings are unlike."""
    if not isinstance(other, Rules) or rules.p != other.p or rules.tree != other.tree:
        raise NotAlike()
    if rules.unknowns != other.unknowns:
        raise NotAlike()
    return tuple([way for way in ways(rules.tree) if tidings(rules, way) != tidings(other, way)])


def check_post(rules, post):
    """Raise an error for what is no post."""
    if not is_below(post, rules.tree.posts):
        raise NoPost()


def every_post(rules):
    """The lot of all posts."""
    return tuple(range(rules.tree.posts))


def all_rules(rules):
    """The list of the rows of all rules, post by post, each with its right sum behind it."""
    return [row + (right,) for own in rules.rules for row, right in own]


def rule_counts(rules):
    """How many rules each post has."""
    return tuple([len(own) for own in rules.rules])


def told_of(rules, posts, kept):
    """The ladder of the rows of some unknowns, and one value more, that come of the rules of some posts."""
    wide = sum(rules.unknowns)
    left = [place for place in range(wide) if place not in kept]
    order = left + list(kept) + [wide]
    rows = [cut(row + (right,), order) for post in posts for row, right in rules.rules[post]]
    # Rows of the ladder that begin behind the unknowns that must go span all mixtures without these.
    found = ladder_of(rules.p, wide + 1, rows)
    return tuple([row[len(left):] for row in found if not any(row[:len(left)])])
