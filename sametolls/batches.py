"""How often batches of numbers can go by a plan, and in which ticks of its batch each number is sent."""

from sametolls.errors import NoNumber, NotPlanned
from sametolls.kinds import is_below
from sametolls.loads import MOST_TICKS
from sametolls.openings import check_breadth
from sametolls.plans import check_plan, sources
from sametolls.tolls import tolls
from sametolls.trees import outward, ways

MOST_PACE = 200


def is_pacing(sheet, plan, breadth, pace, thing):
    """Whether a thing is a pacing of a plan that fits."""
    check_pace(sheet, plan, breadth, pace)
    if not has_form(sheet, plan, thing):
        return False
    for way in ways(sheet.tree):
        if any([tick < first for tick, first in zip(thing[way], first_ticks(sheet, plan, thing, way))]):
            return False
        alike = [tick % pace for tick in thing[way]]
        if any([alike.count(tick) > breadth for tick in alike]):
            return False
    return True


def pacing(sheet, plan, breadth, pace):
    """A pacing of a plan that fits, or None."""
    check_pace(sheet, plan, breadth, pace)
    found = {}
    for way in outward(sheet.tree):
        if len(plan[0][way]) > pace * breadth:
            return None
        taken = []
        for first in first_ticks(sheet, plan, found, way):
            taken.append(free_tick(taken, breadth, pace, first))
        found[way] = tuple(taken)
    return found


def least_pace(sheet, plan, breadth):
    """The least pace at which a plan has a pacing that fits."""
    check_plan(sheet, plan)
    check_breadth(breadth)
    return pace_for([len(rows) for rows in plan[0].values()], breadth)


def best_pace(sheet, breadth):
    """The least pace at which any right plan has a pacing that fits."""
    check_breadth(breadth)
    return pace_for(list(tolls(sheet).values()), breadth)


def lag(sheet, plan, pacing):
    """The greatest tick of a pacing, 0 without any."""
    check_plan(sheet, plan)
    if not has_form(sheet, plan, pacing):
        raise NotPlanned()
    return max([0] + [tick for own in pacing.values() for tick in own])


def pace_for(most, breadth):
    """The least pace that leaves places for so many numbers over each way."""
    return max([1] + [-(-count // breadth) for count in most])


def first_ticks(sheet, plan, paced, way):
    """For each number said over a way the first tick in which it can be sent, by those of the ways ahead of it."""
    here, there = way
    heard = [tick for other in sources(sheet.tree, here, there) for tick in paced[other]]
    own = [0] * sheet.holds[here]
    return [1 + max([0] + [tick for value, tick in zip(row, own + heard) if value]) for row in plan[0][way]]


def free_tick(taken, breadth, pace, first):
    """The first tick from one on in which, by the pace, there still is a place."""
    tick = first
    while len([other for other in taken if (other - tick) % pace == 0]) >= breadth:
        tick += 1
    return tick


def has_form(sheet, plan, thing):
    """Whether a thing is a pacing of a plan, which fits or not."""
    paths = ways(sheet.tree)
    if not isinstance(thing, dict) or len(thing) != len(paths):
        return False
    return all([way in thing and are_ticks(thing[way], len(plan[0][way])) for way in paths])


def are_ticks(thing, count):
    """Whether a thing is a tuple of so many ticks."""
    if not isinstance(thing, tuple) or len(thing) != count:
        return False
    return all([is_below(tick, MOST_TICKS + 1) and tick > 0 for tick in thing])


def check_pace(sheet, plan, breadth, pace):
    """Raise the error that is due for a plan, a breadth and a pace."""
    check_plan(sheet, plan)
    check_breadth(breadth)
    if not is_below(pace, MOST_PACE + 1) or pace == 0:
        raise NoNumber()
