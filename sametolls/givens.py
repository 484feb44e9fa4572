"""Which tolls sheets can have, sheets that have them, and how many there are."""

from sametolls.clocks import check_clock, determinant, power
from sametolls.errors import Barred, NoClock, NoNumber, NoTable
from sametolls.kinds import is_below, is_pair
from sametolls.making import made_wants
from sametolls.sheets import Sheet, all_wants, by_posts, check_counts
from sametolls.trees import Tree, is_way, tied, ways

MOST_TOLL = 60
TWO_POSTS = ((0, 1),)


def barring(tree, holds, wants, table):
    """The least pair (post, way) that bars a table of tolls, or None."""
    check_table(tree, holds, wants, table)
    return first_barring(tree, holds, wants, table)


def is_barring(tree, holds, wants, table, thing):
    """Whether a thing is a pair (post, way) that bars a table of tolls."""
    check_table(tree, holds, wants, table)
    if not is_pair(thing) or not is_below(thing[0], tree.posts) or not is_way(tree, thing[1]):
        return False
    post, way = thing
    return post in way and bars(tree, holds, wants, table, post, way)


def made_sheet(p, tree, holds, wants, table):
    """A sheet of these counts with just these tolls."""
    check_clock(p)
    check_table(tree, holds, wants, table)
    check_barring(tree, holds, wants, table)
    return Sheet(p, tree, holds, made_wants(p, tree, holds, wants, table))


def made_undoable(p, tree, holds, table):
    """A sheet with just these tolls that can be undone, each post wanting as many sums as it holds numbers."""
    check_clock(p)
    check_counts(tree, holds)
    if p <= sum(holds):
        raise NoClock()
    check_table(tree, holds, holds, table)
    check_barring(tree, holds, holds, table)
    made = Sheet(p, tree, holds, made_wants(p, tree, holds, holds, table))
    return Sheet(p, tree, holds, by_posts(holds, without_kernel(p, all_wants(made))))


def check_table(tree, holds, wants, table):
    """Raise the error that is due for counts and a table of tolls."""
    check_counts(tree, holds)
    check_counts(tree, wants)
    if not is_table(tree, table):
        raise NoTable()


def check_barring(tree, holds, wants, table):
    """Raise an error for a table that something bars."""
    found = first_barring(tree, holds, wants, table)
    if found is not None:
        raise Barred(found[0], found[1])


def is_table(tree, thing):
    """Whether a thing is a dict from just all ways to numbers that are not too great."""
    paths = ways(tree)
    if not isinstance(thing, dict) or len(thing) != len(paths):
        return False
    return all([way in thing and is_below(thing[way], MOST_TOLL + 1) for way in paths])


def first_barring(tree, holds, wants, table):
    """What barring tells, for what is known to be counts and a table."""
    for post in range(tree.posts):
        for way in ways(tree):
            if post in way and bars(tree, holds, wants, table, post, way):
                return post, way
    return None


def bars(tree, holds, wants, table, post, way):
    """Whether a table has more for a way from or to a post than the post can have to say, or has use for."""
    if way[0] == post:
        most = holds[post] + sum([table[other, post] for other in tied(tree, post) if other != way[1]])
    else:
        most = wants[post] + sum([table[post, other] for other in tied(tree, post) if other != way[0]])
    return table[way] > most


def without_kernel(p, rows):
    """Rows, as many as they are long, with so much more on the diagonal that no row of values is lost.

    The determinant is a polynomial in what is added, of a degree that is the number of the rows, so that
    a clock of more hours has a value for which it is not 0. On the diagonal posts want numbers of their own,
    which no toll depends on.
    """
    for more in range(p):
        found = [row[:at] + ((row[at] + more) % p,) + row[at + 1:] for at, row in enumerate(rows)]
        if determinant(p, found):
            return found
    return None


def tolls_in_all(p, holds, wants, there, back):
    """How many sheets of two posts have these counts and these tolls."""
    check_clock(p)
    tree = Tree(TWO_POSTS)
    check_counts(tree, holds)
    check_counts(tree, wants)
    for toll in (there, back):
        if not is_below(toll, MOST_TOLL + 1):
            raise NoNumber()
    own = power(p, holds[0] * wants[0] + holds[1] * wants[1])
    return own * blocks_in_all(p, wants[1], holds[0], there) * blocks_in_all(p, wants[0], holds[1], back)


def blocks_in_all(p, tall, wide, rank):
    """How many blocks of so many rows of so many values have this rank."""
    # Rows that span a room, chosen one by one, are never among the mixtures of those ahead.
    above, below = 1, 1
    for ahead in range(rank):
        mixtures = power(p, ahead)
        above = above * (power(p, tall) - mixtures) * (power(p, wide) - mixtures)
        below = below * (power(p, rank) - mixtures)
    return above // below


def sheets_in_all(p, tree, holds, wants):
    """How many sheets of these counts there are."""
    check_clock(p)
    check_counts(tree, holds)
    check_counts(tree, wants)
    return power(p, sum(holds) * sum(wants))
