"""Orders of the posts in a row, and what the ties of the row must bear."""

from sametolls.clocks import rank_of
from sametolls.errors import NoLot, NoOrder, TooMany
from sametolls.kinds import is_below, is_integer, is_lot
from sametolls.sheets import Sheet, cut, held
from sametolls.trees import row_of_posts

MOST_POSTS = 10


def in_row(sheet, order):
    """The sheet on the row whose posts are those of an order."""
    if not is_order(sheet, order):
        raise NoOrder()
    places = numbers_at(sheet, order)
    holds = tuple([sheet.holds[post] for post in order])
    wants = tuple([tuple([cut(row, places) for row in sheet.wants[post]]) for post in order])
    return Sheet(sheet.p, row_of_posts(sheet.tree.posts), holds, wants)


def is_order(sheet, thing):
    """Whether a thing is a tuple of all posts, each once."""
    posts = sheet.tree.posts
    if not isinstance(thing, tuple) or not all([is_below(post, posts) for post in thing]):
        return False
    return sorted(thing) == list(range(posts))


def cut_tolls(sheet, lot):
    """The tolls, both ways, of a tie with just a lot of posts this side."""
    if not is_lot(lot, sheet.tree.posts):
        raise NoLot()
    others = others_than(sheet, lot)
    return cut_rank(sheet, lot, others), cut_rank(sheet, others, lot)


def cut_rank(sheet, holders, wanters):
    """The rank of the wants of some posts in the numbers of others."""
    places = numbers_at(sheet, holders)
    rows = [cut(row, places) for post in wanters for row in sheet.wants[post]]
    return rank_of(sheet.p, len(places), rows)


def numbers_at(sheet, posts):
    """The list of the numbers that some posts hold, post by post."""
    return [number for post in posts for number in held(sheet, post)]


def others_than(sheet, lot):
    """The lot of all posts that are not in a lot."""
    return tuple([post for post in range(sheet.tree.posts) if post not in lot])


def least_peak(sheet):
    """The least greatest toll of a row of the posts, and an order that has it."""
    check_posts(sheet)
    return least_orders(sheet, greatest_of)[whole(sheet)]


def least_sum(sheet):
    """The least sum of all tolls of a row of the posts, and an order that has it."""
    check_posts(sheet)
    return least_orders(sheet, sum_of)[whole(sheet)]


def floors(sheet):
    """Floors for the least sum: for each lot the least sum of the tolls behind its posts in a row."""
    check_posts(sheet)
    least = least_orders(sheet, sum_of)
    return {lot: least[lot][0] for lot in least}


def is_floors(sheet, number, thing):
    """Whether a thing is floors for a number."""
    check_posts(sheet)
    lots = all_lots(sheet)
    if not isinstance(thing, dict) or len(thing) != len(lots):
        return False
    if not all([lot in thing and is_integer(thing[lot]) for lot in lots]):
        return False
    if thing[()] > 0 or thing[whole(sheet)] < number:
        return False
    tolls = all_cut_tolls(sheet)
    return all([thing[lot] <= thing[without(lot, post)] + sum(tolls[lot]) for lot in lots for post in lot])


def check_posts(sheet):
    """Raise an error for more posts than all lots can be gone through for."""
    if sheet.tree.posts > MOST_POSTS:
        raise TooMany(MOST_POSTS)


def whole(sheet):
    """The lot of all posts."""
    return tuple(range(sheet.tree.posts))


def without(lot, post):
    """A lot without one of its posts."""
    return tuple([other for other in lot if other != post])


def all_lots(sheet):
    """The list of all lots of posts, each behind those that it has in it."""
    lots = [()]
    for post in range(sheet.tree.posts):
        lots = lots + [lot + (post,) for lot in lots]
    return lots


def all_cut_tolls(sheet):
    """The dict from all lots of posts to what cut_tolls tells of them."""
    found = {}
    for lot in all_lots(sheet):
        others = others_than(sheet, lot)
        # Seen from the other side the tie is the same one, turned about.
        found[lot] = found[others][::-1] if others in found else cut_tolls(sheet, lot)
    return found


def greatest_of(ahead, there, back):
    """The greatest of all tolls, if this is that of the ties ahead."""
    return max(ahead, there, back)


def sum_of(ahead, there, back):
    """The sum of all tolls, if this is that of the ties ahead."""
    return ahead + there + back


def least_orders(sheet, joined):
    """For each lot the least pair (worth, order) of the orders of its posts.

    The worth of an order is joined of what it is without its last post, and of both tolls behind that.
    """
    tolls = all_cut_tolls(sheet)
    least = {(): (0, ())}
    for lot in all_lots(sheet)[1:]:
        there, back = tolls[lot]
        ahead = [(least[without(lot, post)], post) for post in lot]
        least[lot] = min([(joined(worth, there, back), order + (post,)) for (worth, order), post in ahead])
    return least
