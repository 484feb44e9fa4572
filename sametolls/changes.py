"""Changes of what a live net holds: each makes a new state of an old one.

A state is a triple: a sheet, a given, and the dict from all ways to the rows that are said over them.
"""

from sametolls.clocks import ladder_of
from sametolls.errors import Full, NoNumber, NoPost, NoRow, NotEmpty, NoValue, NoValues, NoWant
from sametolls.kinds import are_ascending, is_below, is_pair, is_row
from sametolls.sheets import MOST_AT_POST, MOST_IN_ALL, Sheet, all_wants, wide_block
from sametolls.trees import MOST_TIES, Tree, tied, ways


def settled(sheet, given, says):
    """A state in which what is said stays wherever it may."""
    return sheet, given, {way: kept(sheet, way, says.get(way, ())) for way in ways(sheet.tree)}


def kept(sheet, way, rows):
    """Rows, if they are just what must be said over a way; otherwise others that are."""
    room = ladder_of(sheet.p, sheet.numbers, wide_block(sheet, way))
    if len(rows) == len(room) and ladder_of(sheet.p, sheet.numbers, rows) == room:
        return rows
    return room


def set_want(state, post, want, row):
    """Another row in the place of a want."""
    sheet, given, says = state
    check_want(sheet, post, want)
    check_row(sheet, row)
    rows = sheet.wants[post]
    return settled(with_wants(sheet, post, rows[:want] + (row,) + rows[want + 1:]), given, says)


def add_want(state, post, row):
    """A want more, behind the post's others."""
    sheet, given, says = state
    check_post(sheet, post)
    check_row(sheet, row)
    if len(sheet.wants[post]) == MOST_AT_POST or len(all_wants(sheet)) == MOST_IN_ALL:
        raise Full()
    return settled(with_wants(sheet, post, sheet.wants[post] + (row,)), given, says)


def drop_want(state, post, want):
    """A want less."""
    sheet, given, says = state
    check_want(sheet, post, want)
    rows = sheet.wants[post]
    return settled(with_wants(sheet, post, rows[:want] + rows[want + 1:]), given, says)


def add_number(state, post, value):
    """A number more, behind the post's others, which nobody wants yet."""
    sheet, given, says = state
    check_post(sheet, post)
    check_value(sheet, value)
    if sheet.holds[post] == MOST_AT_POST or sheet.numbers == MOST_IN_ALL:
        raise Full()
    place = sum(sheet.holds[:post + 1])
    rows = [tuple([put_in(row, place, 0) for row in own]) for own in sheet.wants]
    other = Sheet(sheet.p, sheet.tree, with_count(sheet.holds, post, 1), tuple(rows))
    said = {way: tuple([put_in(row, place, 0) for row in says[way]]) for way in says}
    return settled(other, put_in(given, place, value), said)


def drop_number(state, number):
    """A number less, with its place in all rows."""
    sheet, given, says = state
    check_number(sheet, number)
    post = [owner for owner, count in enumerate(sheet.holds) for _ in range(count)][number]
    rows = [tuple([taken_out(row, number) for row in own]) for own in sheet.wants]
    other = Sheet(sheet.p, sheet.tree, with_count(sheet.holds, post, -1), tuple(rows))
    said = {way: tuple([taken_out(row, number) for row in says[way]]) for way in says}
    return settled(other, taken_out(given, number), said)


def add_post(state, post):
    """A post more, with the greatest number, tied to a post."""
    sheet, given, says = state
    check_post(sheet, post)
    if len(sheet.tree.ties) == MOST_TIES:
        raise Full()
    tree = Tree(tuple(sorted(sheet.tree.ties + ((post, sheet.tree.posts),))))
    return settled(Sheet(sheet.p, tree, sheet.holds + (0,), sheet.wants + ((),)), given, says)


def drop_post(state, post):
    """A post less; greater posts count one less."""
    sheet, given, says = state
    check_post(sheet, post)
    if len(tied(sheet.tree, post)) != 1 or sheet.holds[post] > 0 or sheet.wants[post]:
        raise NotEmpty()
    tree = Tree(tuple([without_post(tie, post) for tie in sheet.tree.ties if post not in tie]))
    other = Sheet(sheet.p, tree, taken_out(sheet.holds, post), taken_out(sheet.wants, post))
    return settled(other, given, {without_post(way, post): says[way] for way in says if post not in way})


def set_value(state, number, value):
    """Another value of a number."""
    sheet, given, says = state
    check_number(sheet, number)
    check_value(sheet, value)
    return sheet, given[:number] + (value,) + given[number + 1:], says


def set_values(state, pairs):
    """Other values of some numbers, told in an ascending tuple of pairs."""
    sheet, given, says = state
    if not isinstance(pairs, tuple) or not all([is_setting(sheet, pair) for pair in pairs]):
        raise NoValues()
    if not are_ascending([number for number, _ in pairs]):
        raise NoValues()
    values = list(given)
    for number, value in pairs:
        values[number] = value
    return sheet, tuple(values), says


def with_wants(sheet, post, rows):
    """A sheet with other wants of a post."""
    wants = sheet.wants[:post] + (rows,) + sheet.wants[post + 1:]
    return Sheet(sheet.p, sheet.tree, sheet.holds, wants)


def with_count(counts, post, more):
    """Counts with some more for a post."""
    return counts[:post] + (counts[post] + more,) + counts[post + 1:]


def put_in(row, place, value):
    """A row with one more value in a place."""
    return row[:place] + (value,) + row[place:]


def taken_out(row, place):
    """A row without what stands in a place."""
    return row[:place] + row[place + 1:]


def without_post(way, post):
    """A way or tie between the same posts, as they count without a post."""
    return tuple([other - 1 if other > post else other for other in way])


def is_setting(sheet, thing):
    """Whether a thing is a pair of a number of a sheet and a value."""
    return is_pair(thing) and is_below(thing[0], sheet.numbers) and is_below(thing[1], sheet.p)


def check_post(sheet, post):
    """Raise an error for what is no post."""
    if not is_below(post, sheet.tree.posts):
        raise NoPost()


def check_want(sheet, post, want):
    """Raise the error that is due for a post and a want of it."""
    check_post(sheet, post)
    if not is_below(want, len(sheet.wants[post])):
        raise NoWant()


def check_row(sheet, row):
    """Raise an error for what has not a value for each number."""
    if not is_row(row, sheet.p, sheet.numbers):
        raise NoRow()


def check_number(sheet, number):
    """Raise an error for what is no number that is held."""
    if not is_below(number, sheet.numbers):
        raise NoNumber()


def check_value(sheet, value):
    """Raise an error for what is no value of the clock."""
    if not is_below(value, sheet.p):
        raise NoValue()


# Each change by its name, with how many things it is passed.
CHANGES = {
    "set_want": (set_want, 3), "add_want": (add_want, 2), "drop_want": (drop_want, 2),
    "add_number": (add_number, 2), "drop_number": (drop_number, 1),
    "add_post": (add_post, 1), "drop_post": (drop_post, 1),
    "set_value": (set_value, 2), "set_values": (set_values, 1),
}


def is_change(thing):
    """Whether a thing is a tuple of the name of a change and as many things as it is passed."""
    if not isinstance(thing, tuple) or len(thing) == 0 or not isinstance(thing[0], str):
        return False
    return thing[0] in CHANGES and len(thing) == CHANGES[thing[0]][1] + 1


def changed(state, entry):
    """The state that a change makes of a state."""
    name, *told = entry
    action, _ = CHANGES[name]
    return action(state, *told)
