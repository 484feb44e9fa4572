"""Sheets: what the posts of a tree hold and want."""

from sametolls.clocks import is_clock
from sametolls.errors import BadSheet, NoCounts, NoPost, NoWay
from sametolls.kinds import is_below, is_row
from sametolls.trees import Tree, beyond, is_way, this_side

MOST_AT_POST = 8
MOST_IN_ALL = 60


class Sheet:
    """A clock, a tree, how many numbers each post holds, and the rows of the sums that it wants."""

    def __init__(self, p, tree, holds, wants):
        if not is_clock(p):
            raise BadSheet("clock")
        if not isinstance(tree, Tree):
            raise BadSheet("tree")
        if not are_counts(tree, holds):
            raise BadSheet("holds")
        check_wants(p, tree, sum(holds), wants)
        self.p = p
        self.tree = tree
        self.holds = holds
        self.wants = wants
        self.numbers = sum(holds)

    def __eq__(self, other):
        return (isinstance(other, Sheet) and self.p == other.p and self.tree == other.tree
                and self.holds == other.holds and self.wants == other.wants)


def are_counts(tree, thing):
    """Whether a thing is a tuple of a number up to 8 for each post, at most 60 in all."""
    if not isinstance(thing, tuple) or len(thing) != tree.posts:
        return False
    if not all([is_below(count, MOST_AT_POST + 1) for count in thing]):
        return False
    return sum(thing) <= MOST_IN_ALL


def check_counts(tree, thing):
    """Raise an error for what does not give a count for each post."""
    if not are_counts(tree, thing):
        raise NoCounts()


def check_wants(p, tree, numbers, wants):
    """Raise the error that is due for what does not tell the wants of each post."""
    if not isinstance(wants, tuple) or len(wants) != tree.posts:
        raise BadSheet("wants")
    if not all([isinstance(rows, tuple) and len(rows) <= MOST_AT_POST for rows in wants]):
        raise BadSheet("wants")
    for post, rows in enumerate(wants):
        for want, row in enumerate(rows):
            if not is_row(row, p, numbers):
                raise BadSheet((post, want))
    if sum([len(rows) for rows in wants]) > MOST_IN_ALL:
        raise BadSheet("many")


def held(sheet, post):
    """The lot of the numbers that a post holds."""
    if not is_below(post, sheet.tree.posts):
        raise NoPost()
    return own_places(sheet.holds, post)


def own_places(counts, post):
    """The lot of the places of a post in all rows, if each post has so many."""
    start = sum(counts[:post])
    return tuple(range(start, start + counts[post]))


def by_posts(counts, things):
    """Some things, all in one list, dealt out to the posts, so many to each."""
    return tuple([tuple([things[place] for place in own_places(counts, post)]) for post in range(len(counts))])


def all_wants(sheet):
    """The list of the rows of all wants, post by post."""
    return [row for rows in sheet.wants for row in rows]


def want_counts(sheet):
    """How many sums each post wants."""
    return tuple([len(rows) for rows in sheet.wants])


def block(sheet, way):
    """The rows of all wants beyond a way, cut down to the numbers held this side."""
    if not is_way(sheet.tree, way):
        raise NoWay()
    rows = [sheet.wants[post][want] for post, want in far_wants(sheet, way)]
    return narrowed(rows, near_numbers(sheet, way))


def near_numbers(sheet, way):
    """The lot of the numbers held this side of a way."""
    return tuple([number for post in this_side(sheet.tree, way) for number in held(sheet, post)])


def far_wants(sheet, way):
    """The ascending tuple of the pairs (post, want) of all wants beyond a way."""
    posts = beyond(sheet.tree, way)
    return tuple([(post, want) for post in posts for want in range(len(sheet.wants[post]))])


def cut(row, lot):
    """A row cut down to the places of a lot."""
    return tuple([row[place] for place in lot])


def narrowed(rows, lot):
    """Rows cut down to the places of a lot."""
    return tuple([cut(row, lot) for row in rows])


def wide_block(sheet, way):
    """The rows of a block with noughts for the numbers beyond."""
    rows = [sheet.wants[post][want] for post, want in far_wants(sheet, way)]
    return masked(sheet, rows, near_numbers(sheet, way))


def masked(sheet, rows, lot):
    """Rows with noughts for all numbers but those of a lot."""
    keeps = [1 if number in lot else 0 for number in range(sheet.numbers)]
    return tuple([tuple([value * keep for value, keep in zip(row, keeps)]) for row in rows])
