"""Timetables: what is sent over the ties of a row of posts in which tick."""

from sametolls.clocks import cleared, ladder_of, product_of, unit_rows, widened
from sametolls.errors import NoPost, NoTable
from sametolls.kinds import are_ascending, is_below, is_row
from sametolls.loads import MOST_TICKS, can_by, check_tick, check_timed
from sametolls.openings import places
from sametolls.runs import check_given
from sametolls.sending import all_sendings
from sametolls.sheets import held
from sametolls.trees import is_way


def is_kept(sheet, timing, thing):
    """Whether a thing is a timetable that can be kept."""
    check_timed(sheet, timing)
    return can_be_kept(sheet, timing, thing)


def known(sheet, timing, table, post, tick):
    """The ladder of what a post knows behind a tick."""
    check_table(sheet, timing, table)
    if not is_below(post, sheet.tree.posts):
        raise NoPost()
    check_tick(tick)
    rows = [row for then, way, row in table if way[1] == post and then <= tick]
    return ladder_of(sheet.p, sheet.numbers, own_rows(sheet, post) + rows)


def met(sheet, timing, table):
    """For each post the least tick behind which it knows the sums of all its wants, None for never."""
    check_table(sheet, timing, table)
    return tuple([met_at(sheet, table, post) for post in range(sheet.tree.posts)])


def heard_at(sheet, timing, table, given):
    """The values that are sent, in the order of the sendings."""
    check_table(sheet, timing, table)
    check_given(sheet, given)
    return tuple([product_of(sheet.p, row, given) for _, _, row in table])


def timetable(sheet, timing, tick):
    """A timetable that can be kept, by which all wants are met by a tick; None if there is none."""
    if not can_by(sheet, timing, tick):
        return None
    return all_sendings(sheet, timing, (tick,) * sheet.tree.posts)


def check_table(sheet, timing, table):
    """Raise the error that is due for a sheet, a timing and a timetable."""
    check_timed(sheet, timing)
    if not can_be_kept(sheet, timing, table):
        raise NoTable()


def can_be_kept(sheet, timing, thing):
    """Whether a thing is a timetable that can be kept, for a timing that is right."""
    if not isinstance(thing, tuple) or not all([is_sending(sheet, sending) for sending in thing]):
        return False
    return are_ascending(thing) and have_places(timing, thing) and are_known(sheet, thing)


def is_sending(sheet, thing):
    """Whether a thing is a triple of a tick, a way and a row."""
    if not isinstance(thing, tuple) or len(thing) != 3:
        return False
    tick, way, row = thing
    if not is_below(tick, MOST_TICKS + 1) or tick == 0:
        return False
    return is_way(sheet.tree, way) and is_row(row, sheet.p, sheet.numbers)


def have_places(timing, table):
    """Whether no more is sent over a way in a tick than there are places."""
    used = {}
    for tick, way, _ in table:
        used[tick, way] = used.get((tick, way), 0) + 1
    return all([used[tick, way] <= places(timing, way, tick) for tick, way in used])


def are_known(sheet, table):
    """Whether each row is one that its sender knows ahead of its tick."""
    rooms = [own_room(sheet, post) for post in range(sheet.tree.posts)]
    coming = []
    now = 0
    for tick, way, row in table:
        # What is sent in a tick is known there behind it.
        if tick > now:
            for there, other in coming:
                widened(sheet.p, sheet.numbers, rooms[there], [other])
            coming = []
            now = tick
        if any(cleared(sheet.p, rooms[way[0]], row)):
            return False
        coming.append((way[1], row))
    return True


def met_at(sheet, table, post):
    """The least tick behind which a post knows the sums of all its wants, None for never."""
    room = own_room(sheet, post)
    wants = [row for row in sheet.wants[post] if any(cleared(sheet.p, room, row))]
    now = 0
    for tick, way, row in table:
        if wants and way[1] == post:
            widened(sheet.p, sheet.numbers, room, [row])
            wants = [want for want in wants if any(cleared(sheet.p, room, want))]
            now = tick
    return None if wants else now


def own_room(sheet, post):
    """The rungs of the room of the numbers that a post holds."""
    return widened(sheet.p, sheet.numbers, {}, own_rows(sheet, post))


def own_rows(sheet, post):
    """The rows of the numbers that a post holds."""
    rows = unit_rows(sheet.numbers)
    return [rows[number] for number in held(sheet, post)]
