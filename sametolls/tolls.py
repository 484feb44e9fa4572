"""Tolls: the least number of numbers that must go over a way."""

from sametolls.clocks import determinant, rank, square
from sametolls.errors import NoWay
from sametolls.kinds import are_ascending, is_below, is_lot, is_pair
from sametolls.sheets import block, cut, far_wants, near_numbers
from sametolls.trees import is_way, ways


def toll(sheet, way):
    """The rank of the block of a way."""
    rows = block(sheet, way)
    return rank(sheet.p, len(near_numbers(sheet, way)), rows)


def tolls(sheet):
    """The dict from all ways to their tolls."""
    return {way: toll(sheet, way) for way in ways(sheet.tree)}


def toll_square(sheet, way):
    """As many wants beyond, and numbers this side, as the toll, whose values have a determinant not 0."""
    rows = block(sheet, way)
    near = near_numbers(sheet, way)
    lot, places = square(sheet.p, len(near), rows)
    return cut(far_wants(sheet, way), lot), cut(near, places)


def is_toll_square(sheet, way, thing):
    """Whether a thing is a pair that toll_square may tell."""
    if not is_way(sheet.tree, way):
        raise NoWay()
    if not is_pair(thing) or not are_wants(sheet, way, thing[0]) or not are_numbers(sheet, way, thing[1]):
        return False
    wants, numbers = thing
    if len(wants) != len(numbers) or len(wants) != toll(sheet, way):
        return False
    return determinant(sheet.p, [cut(sheet.wants[post][want], numbers) for post, want in wants]) != 0


def are_wants(sheet, way, thing):
    """Whether a thing is an ascending tuple of wants beyond a way."""
    if not isinstance(thing, tuple) or not all([is_want(sheet, want) for want in thing]):
        return False
    far = far_wants(sheet, way)
    return all([want in far for want in thing]) and are_ascending(thing)


def is_want(sheet, thing):
    """Whether a thing is a pair of a post and a want of it."""
    if not is_pair(thing) or not is_below(thing[0], sheet.tree.posts):
        return False
    return is_below(thing[1], len(sheet.wants[thing[0]]))


def are_numbers(sheet, way, thing):
    """Whether a thing is a lot of numbers held this side of a way."""
    if not is_lot(thing, sheet.numbers):
        return False
    near = near_numbers(sheet, way)
    return all([number in near for number in thing])
