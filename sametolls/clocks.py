"""Clocks of a prime number of hours, rows of values, and the rooms that rows span."""

from sametolls.errors import NoClock, NoNumber, NoRow, NoRows
from sametolls.kinds import is_below, is_integer, is_row

MOST_HOURS = 1000000
MOST_WIDE = 200
MOST_ROWS = 200
MOST_SIDE = 60


def is_clock(thing):
    """Whether a thing is a prime up to 10 ** 6."""
    if not is_integer(thing) or not 2 <= thing <= MOST_HOURS:
        return False
    factor = 2
    while factor * factor <= thing:
        if thing % factor == 0:
            return False
        factor += 1
    return True


def ladder(p, wide, rows):
    """The ladder of the room that rows span."""
    check_rows(p, wide, rows)
    return ladder_of(p, wide, rows)


def rank(p, wide, rows):
    """How many rows the ladder has."""
    check_rows(p, wide, rows)
    return rank_of(p, wide, rows)


def mixture(p, wide, rows, row):
    """How many times each of the rows makes up a row; None if it is not in their room."""
    check_rows(p, wide, rows)
    check_row(p, wide, row)
    return mixtures(p, wide, rows, [row])[0]


def parting(p, wide, rows, row):
    """A tuple whose products add up to 0 with the rows, to 1 with a row; None if it is in their room."""
    check_rows(p, wide, rows)
    check_row(p, wide, row)
    rungs = rungs_of(p, wide, rows)[0]
    rest = cleared(p, rungs, row)
    place = first_place(rest, wide)
    if place is None:
        return None
    factor = inverse(p, rest[place])
    parts = [0] * wide
    parts[place] = factor
    # A rung has only its own first place and this one where the parts are not 0.
    for other in rungs:
        parts[other] = -factor * rungs[other][place] % p
    return tuple(parts)


def square(p, wide, rows):
    """The least lot of rows that spans the room, and the lot of the first places of the ladder."""
    check_rows(p, wide, rows)
    rungs, news = rungs_of(p, wide, rows)
    return tuple(news), tuple(sorted(rungs))


def determinant(p, rows):
    """The determinant of as many rows as each has values."""
    check_clock(p)
    if not isinstance(rows, (list, tuple)) or len(rows) > MOST_SIDE:
        raise NoRows(-1)
    check_each(p, len(rows), rows)
    left = list(rows)
    worth = 1
    for place in range(len(rows)):
        at = first_row(left, place)
        if at is None:
            return 0
        head = left[at]
        # Each row that the head goes ahead of turns the sign.
        worth = worth * head[place] * (-1 if at % 2 else 1) % p
        rung = multiplied(p, inverse(p, head[place]), head)
        left = [cleared(p, {place: rung}, row) for row in left[:at] + left[at + 1:]]
    return worth


def check_clock(p):
    """Raise an error for what is no clock."""
    if not is_clock(p):
        raise NoClock()


def check_rows(p, wide, rows):
    """Raise the error that is due for a clock, a length and rows."""
    check_clock(p)
    if not is_below(wide, MOST_WIDE + 1):
        raise NoNumber()
    if not isinstance(rows, (list, tuple)) or len(rows) > MOST_ROWS:
        raise NoRows(-1)
    check_each(p, wide, rows)


def check_each(p, wide, rows):
    """Raise an error for the first that is no row of so many values."""
    for index, row in enumerate(rows):
        if not is_row(row, p, wide):
            raise NoRows(index)


def check_row(p, wide, row):
    """Raise an error for what is no row of so many values."""
    if not is_row(row, p, wide):
        raise NoRow()


def ladder_of(p, wide, rows):
    """The ladder of right rows, however many they are."""
    rungs = rungs_of(p, wide, rows)[0]
    return tuple([rungs[place] for place in sorted(rungs)])


def rank_of(p, wide, rows):
    """The rank of right rows, however many they are."""
    return len(widened(p, wide, {}, rows))


def widened(p, wide, rungs, rows):
    """Rungs, to which those are added that rows need beside them: each row is then in their room."""
    # A rung is 0 in the first places of those ahead of it, so that clearing in their order is enough.
    for row in rows:
        rest = cleared(p, rungs, row)
        place = first_place(rest, wide)
        if place is not None:
            rungs[place] = multiplied(p, inverse(p, rest[place]), rest)
    return rungs


def kernel_of(p, wide, rows):
    """The ladder of all rows whose products with each of the rows, place by place, add up to 0."""
    rungs = rungs_of(p, wide, rows)[0]
    found = []
    for place, unit in enumerate(unit_rows(wide)):
        if place not in rungs:
            row = list(unit)
            # A rung has only its own first place and this one where the row is not 0.
            for first in rungs:
                row[first] = -rungs[first][place] % p
            found.append(tuple(row))
    return ladder_of(p, wide, found)


def rungs_of(p, wide, rows):
    """The ladder by the first wide places, and the numbers of the rows that those ahead do not span.

    The ladder is a dict from the place of each first value to its row. Rows may be longer than wide:
    what stands behind goes along with what is done to the places ahead.
    """
    rungs = {}
    news = []
    for number, row in enumerate(rows):
        rest = cleared(p, rungs, row)
        place = first_place(rest, wide)
        if place is None:
            continue
        rung = multiplied(p, inverse(p, rest[place]), rest)
        for other in list(rungs):
            rungs[other] = cleared(p, {place: rung}, rungs[other])
        rungs[place] = rung
        news.append(number)
    return rungs, news


def mixtures(p, wide, rows, made):
    """For each row that is made the tuple of how many times each of the rows goes into it, or None."""
    marks = unit_rows(len(rows))
    rungs = rungs_of(p, wide, [row + mark for row, mark in zip(rows, marks)])[0]
    found = []
    for row in made:
        rest = cleared(p, rungs, row + (0,) * len(rows))
        # The marks tell what was taken away, so that the mixture is their negative.
        inside = first_place(rest, wide) is None
        found.append(tuple([-value % p for value in rest[wide:]]) if inside else None)
    return found


def mixed(p, wide, factors, rows):
    """The row of so many values that rows, each so many times, add up to."""
    total = (0,) * wide
    for factor, row in zip(factors, rows):
        if factor:
            total = tuple([(value + factor * more) % p for value, more in zip(total, row)])
    return total


def product_of(p, one, other):
    """The sum of the products of two rows, place by place."""
    return sum([value * factor for value, factor in zip(one, other)]) % p


def cleared(p, rungs, row):
    """A row less so many of the rungs that it is 0 in the place of each."""
    for place in rungs:
        factor = row[place]
        if factor:
            row = tuple([(value - factor * less) % p for value, less in zip(row, rungs[place])])
    return row


def multiplied(p, factor, row):
    """A row so many times."""
    return tuple([factor * value % p for value in row])


def inverse(p, value):
    """By what a value that is not 0 is to be multiplied to be 1."""
    ahead, now = p, value
    before, factor = 0, 1
    while now != 1:
        times = ahead // now
        ahead, now = now, ahead - times * now
        before, factor = factor, before - times * factor
    return factor % p


def power(p, times):
    """A number multiplied by itself so many times."""
    total = 1
    for _ in range(times):
        total = total * p
    return total


def first_place(row, wide):
    """The place of the first of so many values that is not 0, or None."""
    for place in range(wide):
        if row[place]:
            return place
    return None


def first_row(rows, place):
    """The number of the first row that is not 0 in a place, or None."""
    for number, row in enumerate(rows):
        if row[place]:
            return number
    return None


def unit_rows(wide):
    """For each place the row that is 1 there alone."""
    return [(0,) * place + (1,) + (0,) * (wide - place - 1) for place in range(wide)]
