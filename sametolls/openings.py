"""When the ties of a row of posts are open: how many numbers can be sent in each tick."""

from sametolls.errors import BadTiming, NoNumber, NoTick, NoWay
from sametolls.kinds import is_below, is_pair
from sametolls.trees import MOST_TIES

MOST_TURNS = 40
MOST_PLACES = 8
LAST_TICK = 1000000000


class Timing:
    """For each tie of a row an opening to the post of the greater number, and one of the way back."""

    def __init__(self, right, left):
        if not isinstance(right, tuple) or len(right) > MOST_TIES or not are_openings(right):
            raise BadTiming("right")
        if not isinstance(left, tuple) or len(left) != len(right) or not are_openings(left):
            raise BadTiming("left")
        self.right = right
        self.left = left

    def __eq__(self, other):
        return isinstance(other, Timing) and self.right == other.right and self.left == other.left


def are_openings(things):
    """Whether all of a tuple are openings."""
    return all([is_opening(thing) for thing in things])


def is_opening(thing):
    """Whether a thing is a pair of tuples of numbers of places, the second one not empty."""
    return is_pair(thing) and are_turns(thing[0]) and are_turns(thing[1]) and len(thing[1]) > 0


def are_turns(thing):
    """Whether a thing is a tuple, not too long, of numbers of places."""
    if not isinstance(thing, tuple) or len(thing) > MOST_TURNS:
        return False
    return all([is_below(places_then, MOST_PLACES + 1) for places_then in thing])


def even_timing(ties, breadth):
    """The timing of so many ties that carry the same in each tick, both ways."""
    if not is_below(ties, MOST_TIES + 1):
        raise NoNumber()
    check_breadth(breadth)
    openings = (((), (breadth,)),) * ties
    return Timing(openings, openings)


def check_breadth(breadth):
    """Raise an error for what is no number of places of ties that carry the same in each tick."""
    if not is_below(breadth, MOST_PLACES + 1) or breadth == 0:
        raise NoNumber()


def places(timing, way, tick):
    """How many numbers can be sent over a way in a tick."""
    begin, turns = opening_at(timing, way, tick)
    if tick == 0:
        return 0
    if tick <= len(begin):
        return begin[tick - 1]
    return turns[(tick - len(begin) - 1) % len(turns)]


def carried(timing, way, tick):
    """How many numbers can be sent over a way in all ticks up to one."""
    begin, turns = opening_at(timing, way, tick)
    if tick <= len(begin):
        return sum(begin[:tick])
    whole, more = divmod(tick - len(begin), len(turns))
    return sum(begin) + whole * sum(turns) + sum(turns[:more])


def all_places(timing, way, tick):
    """The list of how many numbers can be sent over a way in tick 1, 2, .. up to one."""
    begin, turns = opening_at(timing, way, tick)
    return list((begin + turns * (tick // len(turns) + 1))[:tick])


def opening_at(timing, way, tick):
    """The opening of a way; an error that is due for the way, or for a tick."""
    if not are_neighbours(len(timing.right) + 1, way):
        raise NoWay()
    if not is_below(tick, LAST_TICK + 1):
        raise NoTick()
    here, there = way
    return timing.right[here] if here < there else timing.left[there]


def are_neighbours(posts, thing):
    """Whether a thing is a pair of posts of a row of so many, one next to the other."""
    if not is_pair(thing) or not all([is_below(post, posts) for post in thing]):
        return False
    return abs(thing[0] - thing[1]) == 1
