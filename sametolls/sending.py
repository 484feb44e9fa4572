"""Sending on along a row of posts what is wanted, what is due first ahead of all else."""

from sametolls.clocks import cleared, first_place, inverse, mixed, multiplied, rungs_of, unit_rows
from sametolls.loads import steps
from sametolls.openings import all_places
from sametolls.sheets import cut, held, masked


def all_sendings(sheet, timing, hours):
    """The ascending tuple of sendings that meet all wants of each post by its hour, if any can."""
    line = list(range(sheet.tree.posts))
    found = sendings_along(sheet, timing, hours, line) + sendings_along(sheet, timing, hours, line[::-1])
    return tuple(sorted(found))


def sendings_along(sheet, timing, hours, line):
    """The list of the sendings over all ways along a line."""
    found = []
    heard = []
    for step, way in enumerate(steps(line)):
        ahead = [number for post in line[:step] for number in held(sheet, post)]
        near = ahead + list(held(sheet, line[step]))
        rows = due_rows(sheet, hours, line, step, near)
        ready = made_ready(sheet, rows, ahead, heard)
        heard = sent_in(ready, all_places(timing, way, max(hours)))
        found += [(tick, way, row) for tick, row in heard]
    return found


def due_rows(sheet, hours, line, step, near):
    """Rows that span what must go over a way of a line, with noughts for numbers beyond, what is due first ahead.

    What a post wants must go over each way ahead of it by its hour, less a tick for each tie between. So the order
    of the posts beyond is the same one for all ways.
    """
    order = sorted(list(range(step + 1, len(line))), key=lambda place: hours[line[place]] - place)
    rows = masked(sheet, [row for place in order for row in sheet.wants[line[place]]], near)
    return [rows[number] for number in rungs_of(sheet.p, sheet.numbers, rows)[1]]


def made_ready(sheet, rows, ahead, heard):
    """Triples: behind which tick a row can be sent, how many are due ahead of it, and the row.

    The rows are those due over the way, heard the pairs of tick and row that came over the way ahead. Each triple's
    row is a mixture of rows that are due no later than its own place among them, and no other rows that can be
    sent then are due earlier: whatever is sent in this order, no room of what is due comes too short.
    """
    p, count, wide = sheet.p, len(rows), len(ahead)
    # The marks stand the other way round, so that the first place of a mixture is that of what is due last in it.
    marks = unit_rows(count)[::-1]
    coming = [(0, cut(row, ahead) + mark) for row, mark in zip(rows, marks)]
    coming += [(tick, cut(row, ahead) + (0,) * count) for tick, row in heard]
    lacking, known, found = {}, {}, []
    for tick, row in coming:
        rest = cleared(p, lacking, row)
        place = first_place(rest, wide)
        if place is not None:
            lacking[place] = multiplied(p, inverse(p, rest[place]), rest)
            continue
        factors = cleared(p, known, rest[wide:])
        last = first_place(factors, count)
        known[last] = multiplied(p, inverse(p, factors[last]), factors)
        found.append((tick, count - last, mixed(p, sheet.numbers, known[last][::-1], rows)))
    return found


def sent_in(ready, spaces):
    """The pairs of tick and row by which what is ready is sent, what is due first ahead, as places are there."""
    found = []
    waiting = []
    at = 0
    for tick, space in enumerate(spaces, start=1):
        while at < len(ready) and ready[at][0] < tick:
            waiting.append(ready[at][1:])
            at += 1
        waiting = sorted(waiting)
        found += [(tick, row) for _, row in waiting[:space]]
        waiting = waiting[space:]
    return found
