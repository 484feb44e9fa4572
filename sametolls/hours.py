"""By which hours the wants of a row of posts can be met, and in how many ticks there and back."""

from sametolls.clocks import rank_of
from sametolls.errors import NoHours, NotOne
from sametolls.kinds import is_below, is_integer, is_pair
from sametolls.loads import MOST_TICKS, check_in_row, least_tick
from sametolls.openings import check_breadth, even_timing
from sametolls.sending import all_sendings
from sametolls.sheets import narrowed, near_numbers, want_counts
from sametolls.trees import beyond, is_way, ways


def in_time(sheet, breadth, hours):
    """Whether no way must bear more by some tick than it can."""
    return too_early(sheet, breadth, hours) is None


def too_early(sheet, breadth, hours):
    """A way and a tick by which more must go over it than can; None if there is none."""
    check_hours(sheet, breadth, hours)
    for way, hour, rank in dues(sheet, hours):
        if rank > max(hour, 0) * breadth:
            return way, max(hour, 0)
    return None


def is_too_early(sheet, breadth, hours, thing):
    """Whether a thing is a pair that too_early may tell."""
    check_hours(sheet, breadth, hours)
    if not is_pair(thing) or not is_way(sheet.tree, thing[0]):
        return False
    way, hour = thing
    return is_integer(hour) and hour >= 0 and due_by(sheet, hours, way, hour) > hour * breadth


def hours_table(sheet, breadth, hours):
    """A timetable that meets the wants of each post by its hour; None if there is none."""
    if not in_time(sheet, breadth, hours):
        return None
    return all_sendings(sheet, even_timing(sheet.tree.posts - 1, breadth), hours)


def least_delay(sheet, breadth, hours):
    """By how many ticks all hours must be later at least, so that all can be met."""
    check_hours(sheet, breadth, hours)
    # So many ticks are needed for a rank; they are rounded up.
    return max([0] + [-(-rank // breadth) - hour for _, hour, rank in dues(sheet, hours) if rank > 0])


def dues(sheet, hours):
    """Triples: a way, a tick and how many numbers must go over it by then, for all ticks at which more become due."""
    return [(way, hour, due_by(sheet, hours, way, hour)) for way in ways(sheet.tree)
            for hour in sorted(set(list(due_hours(sheet, hours, way).values())))]


def due_by(sheet, hours, way, hour):
    """How many numbers must go over a way by a tick."""
    due = due_hours(sheet, hours, way)
    near = near_numbers(sheet, way)
    rows = [row for post in due if due[post] <= hour for row in sheet.wants[post]]
    return rank_of(sheet.p, len(near), narrowed(rows, near))


def due_hours(sheet, hours, way):
    """The dict from the posts beyond a way to the tick by which what they want must go over it."""
    return {post: hours[post] - abs(post - way[1]) for post in beyond(sheet.tree, way)}


def ticks(sheet):
    """The least tick by which all wants can be met, if each tie carries one number in a tick."""
    check_ones(sheet)
    return least_tick(sheet, even_timing(sheet.tree.posts - 1, 1))


def overlap_ticks(sheet):
    """The greatest rank, over two posts, of what overlaps between them and is more than the posts between."""
    check_ones(sheet)
    posts = sheet.tree.posts
    greatest = 0
    for one in range(posts):
        for other in range(one + 1, posts):
            ahead = list(range(other))
            behind = list(range(one + 1, posts))
            for far, near in ((behind, ahead), (ahead, behind)):
                rank = rank_of(sheet.p, len(near), narrowed([sheet.wants[post][0] for post in far], near))
                if rank > other - one - 1:
                    greatest = max(greatest, rank)
    return greatest


def check_hours(sheet, breadth, hours):
    """Raise the error that is due for a sheet, a breadth and hours."""
    check_in_row(sheet)
    check_breadth(breadth)
    if not isinstance(hours, tuple) or len(hours) != sheet.tree.posts:
        raise NoHours()
    if not all([is_below(hour, MOST_TICKS + 1) for hour in hours]):
        raise NoHours()


def check_ones(sheet):
    """Raise the error that is due for a sheet whose posts do not each hold one number and want one sum."""
    check_in_row(sheet)
    ones = (1,) * sheet.tree.posts
    if sheet.holds != ones or want_counts(sheet) != ones:
        raise NotOne()
