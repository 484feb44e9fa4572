"""Undoing, mirroring and joining sheets."""

from sametolls.clocks import check_clock, kernel_of, mixed, mixtures, rank_of, unit_rows
from sametolls.errors import NoAnswers, NotAfter, NotAlike, NotUndoable, NoWay
from sametolls.kinds import is_row
from sametolls.sheets import Sheet, all_wants, block, by_posts, check_counts, near_numbers, want_counts
from sametolls.trees import is_way


def can_be_undone(sheet):
    """Whether a sheet has as many wants as numbers, and no two givens have all wants alike."""
    rows = all_wants(sheet)
    return len(rows) == sheet.numbers and rank_of(sheet.p, sheet.numbers, rows) == sheet.numbers


def undone(sheet):
    """The sheet in which each post holds what it wanted, and wants what it held."""
    rows = way_back(sheet)
    return Sheet(sheet.p, sheet.tree, want_counts(sheet), by_posts(sheet.holds, rows))


def came_from(sheet, answers):
    """The given whose wants are these answers."""
    rows = way_back(sheet)
    if not are_answers(sheet, answers):
        raise NoAnswers()
    starts = [(value,) for values in answers for value in values]
    return tuple([mixed(sheet.p, 1, row, starts)[0] for row in rows])


def way_back(sheet):
    """For each number the row of how many times each of all wants goes into it."""
    if not can_be_undone(sheet):
        raise NotUndoable()
    return mixtures(sheet.p, sheet.numbers, all_wants(sheet), unit_rows(sheet.numbers))


def are_answers(sheet, thing):
    """Whether a thing has for each post a tuple of a value for each of its wants."""
    if not isinstance(thing, tuple) or len(thing) != sheet.tree.posts:
        return False
    return all([is_row(values, sheet.p, len(rows)) for values, rows in zip(thing, sheet.wants)])


def unheard(sheet, way):
    """The ladder of all givens that are 0 beyond a way, in all numbers and in all wants."""
    if not is_way(sheet.tree, way):
        raise NoWay()
    near = near_numbers(sheet, way)
    return tuple([spread(row, near, sheet.numbers) for row in kernel_of(sheet.p, len(near), block(sheet, way))])


def spread(row, lot, wide):
    """The row of so many values that has those of a row in the places of a lot, and noughts in all others."""
    values = [0] * wide
    for place, value in zip(lot, row):
        values[place] = value
    return tuple(values)


def mirrored(sheet):
    """The sheet in which the places of numbers and wants are exchanged."""
    rows = all_wants(sheet)
    columns = [tuple([row[number] for row in rows]) for number in range(sheet.numbers)]
    return Sheet(sheet.p, sheet.tree, want_counts(sheet), by_posts(sheet.holds, columns))


def staying(p, tree, holds):
    """The sheet in which each post wants just the numbers that it holds."""
    check_clock(p)
    check_counts(tree, holds)
    return Sheet(p, tree, holds, by_posts(holds, unit_rows(sum(holds))))


def behind(sheet, other):
    """The sheet of what the posts want of another one, if its numbers are the wants of this one."""
    if not isinstance(other, Sheet) or sheet.p != other.p or sheet.tree != other.tree:
        raise NotAfter()
    if want_counts(sheet) != other.holds:
        raise NotAfter()
    first = all_wants(sheet)
    rows = [mixed(sheet.p, sheet.numbers, row, first) for row in all_wants(other)]
    return Sheet(sheet.p, sheet.tree, sheet.holds, by_posts(want_counts(other), rows))


def summed(sheet, other):
    """The sheet whose wants are those of two sheets, added one by one."""
    if not isinstance(other, Sheet) or sheet.p != other.p or sheet.tree != other.tree:
        raise NotAlike()
    if sheet.holds != other.holds or want_counts(sheet) != want_counts(other):
        raise NotAlike()
    rows = [mixed(sheet.p, sheet.numbers, (1, 1), pair) for pair in zip(all_wants(sheet), all_wants(other))]
    return Sheet(sheet.p, sheet.tree, sheet.holds, by_posts(want_counts(sheet), rows))
