"""How much a row of posts can lead from one to another by a tick, and whether that is enough."""

from sametolls.clocks import rank_of
from sametolls.errors import BadTiming, NoCut, NoPost, NotRow, NoTick
from sametolls.kinds import is_below
from sametolls.openings import Timing, all_places, carried
from sametolls.sheets import held, narrowed
from sametolls.trees import row_of_posts

MOST_TICKS = 5000
MORE_THAN_ALL_PLACES = 1000000


def load(timing, one, other, tick):
    """How many numbers can at most be led from one post to another by a tick."""
    check_load(timing, one, other, tick)
    return heard_along(timing, line_between(one, other), tick)[-1]


def barred(timing, one, other, tick, cut):
    """How many places are in the ticks that a cut bars."""
    check_load(timing, one, other, tick)
    if not is_cut(one, other, tick, cut):
        raise NoCut()
    return barred_by(timing, one, other, tick, cut)


def least_cut(timing, one, other, tick):
    """A cut that bars as few places as can be."""
    check_load(timing, one, other, tick)
    sums = [summed_up(all_places(timing, way, tick)) for way in steps(line_between(one, other))]
    # The first tie's own tick is 0: all others are made too dear.
    costs = [0] + [MORE_THAN_ALL_PLACES] * tick
    ways_back = []
    for total in sums[:-1]:
        costs, chosen = costs_behind(costs, total)
        ways_back.append(chosen)
    ends = [(cost - ahead, at) for at, (cost, ahead) in enumerate(zip(costs, sums[-1]))]
    found = [min(ends)[1]]
    for chosen in reversed(ways_back):
        found.append(chosen[found[-1]])
    return tuple(found[::-1])


def costs_behind(costs, total):
    """For each own tick of the next tie the fewest places barred ahead of it, and this tie's own tick then."""
    least, at = 0, 0
    further, chosen = [0], [0]
    for tick in range(1, len(costs)):
        if costs[tick - 1] - total[tick - 1] < least:
            least, at = costs[tick - 1] - total[tick - 1], tick - 1
        further.append(least + total[tick - 1])
        chosen.append(at)
    return further, chosen


def summed_up(numbers):
    """The list of the sums of the first none, one, two .. of some numbers."""
    sums = [0]
    for number in numbers:
        sums.append(sums[-1] + number)
    return sums


def between(sheet, one, other):
    """The wants of other, and of all posts behind it, cut down to the numbers of one, and of all ahead of it."""
    check_in_row(sheet)
    check_two(sheet.tree.posts, one, other)
    posts = list(range(sheet.tree.posts))
    ahead, far = (posts[:one + 1], posts[other:]) if one < other else (posts[one:], posts[:other + 1])
    numbers = [number for post in ahead for number in held(sheet, post)]
    return narrowed([row for post in far for row in sheet.wants[post]], numbers)


def can_by(sheet, timing, tick):
    """Whether all that must be led from post to post can be led by a tick."""
    return too_much(sheet, timing, tick) is None


def too_much(sheet, timing, tick):
    """Two posts and a cut of too few places between them, or None."""
    check_timed(sheet, timing)
    check_tick(tick)
    for line in lines(sheet.tree.posts):
        for other, most in zip(line[1:], heard_along(timing, line, tick)):
            if needed(sheet, line[0], other) > most:
                return line[0], other, least_cut(timing, line[0], other, tick)
    return None


def is_too_much(sheet, timing, tick, thing):
    """Whether a thing is a triple that too_much may tell."""
    check_timed(sheet, timing)
    check_tick(tick)
    if not isinstance(thing, tuple) or len(thing) != 3:
        return False
    one, other, cut = thing
    if not are_two(sheet.tree.posts, one, other) or not is_cut(one, other, tick, cut):
        return False
    return needed(sheet, one, other) > barred_by(timing, one, other, tick, cut)


def least_tick(sheet, timing):
    """The least tick by which all can be led, None if there is none up to 5000."""
    check_timed(sheet, timing)
    latest = 0
    for line in lines(sheet.tree.posts):
        tick = tick_along(timing, line, [needed(sheet, line[0], other) for other in line[1:]])
        if tick is None:
            return None
        latest = max(latest, tick)
    return latest


def tick_along(timing, line, needs):
    """The least tick by which the first post of a line can lead to each other one what it needs, or None."""
    heard = [0] * len(needs)
    if heard == needs:
        return 0
    spaces = [all_places(timing, way, MOST_TICKS) for way in steps(line)]
    for tick, column in enumerate(zip(*spaces), start=1):
        heard = heard_on(heard, column)
        if all([most >= need for most, need in zip(heard, needs)]):
            return tick
    return None


def heard_along(timing, line, tick):
    """How many numbers of the first post of a line can at most be led to each other one by a tick."""
    heard = [0] * (len(line) - 1)
    spaces = [all_places(timing, way, tick) for way in steps(line)]
    for column in zip(*spaces):
        heard = heard_on(heard, column)
    return heard


def heard_on(heard, spaces):
    """How many numbers have come to each post of a line behind another tick, as many being sent as can be."""
    found = [heard[0] + spaces[0]]
    for place in range(1, len(heard)):
        found.append(min(heard[place] + spaces[place], heard[place - 1]))
    return found


def needed(sheet, one, other):
    """How many numbers must be led from one post to another."""
    rows = between(sheet, one, other)
    return rank_of(sheet.p, len(rows[0]), rows) if rows else 0


def lines(posts):
    """All lines of two posts or more from a post of a row to an end of it."""
    return ([list(range(one, posts)) for one in range(posts - 1)]
            + [list(range(one, -1, -1)) for one in range(1, posts)])


def line_between(one, other):
    """The posts from one to another."""
    return list(range(one, other + 1)) if one < other else list(range(one, other - 1, -1))


def steps(line):
    """The ways along a line of posts."""
    return list(zip(line, line[1:]))


def is_cut(one, other, tick, thing):
    """Whether a thing is a cut from one post to another."""
    if not isinstance(thing, tuple) or len(thing) != abs(one - other):
        return False
    if not all([is_below(own, tick + 1) for own in thing]) or thing[0] != 0:
        return False
    return all([own > ahead or own == ahead == 0 for ahead, own in zip(thing, thing[1:])])


def barred_by(timing, one, other, tick, cut):
    """How many places are in the ticks that a right cut bars."""
    total = 0
    ends = [max(own - 1, 0) for own in cut[1:]] + [tick]
    for way, own, end in zip(steps(line_between(one, other)), cut, ends):
        total += carried(timing, way, end) - carried(timing, way, own)
    return total


def are_two(posts, one, other):
    """Whether two things are two posts."""
    return is_below(one, posts) and is_below(other, posts) and one != other


def check_two(posts, one, other):
    """Raise an error for what are not two posts."""
    if not are_two(posts, one, other):
        raise NoPost()


def check_tick(tick):
    """Raise an error for what is no tick."""
    if not is_below(tick, MOST_TICKS + 1):
        raise NoTick()


def check_load(timing, one, other, tick):
    """Raise the error that is due for two posts and a tick."""
    check_two(len(timing.right) + 1, one, other)
    check_tick(tick)


def check_in_row(sheet):
    """Raise an error for a sheet whose tree is no row."""
    if sheet.tree != row_of_posts(sheet.tree.posts):
        raise NotRow()


def check_timed(sheet, timing):
    """Raise the error that is due for a sheet and a timing."""
    check_in_row(sheet)
    if not isinstance(timing, Timing) or len(timing.right) != sheet.tree.posts - 1:
        raise BadTiming("right")
