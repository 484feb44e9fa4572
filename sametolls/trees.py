"""Trees of posts, and the ways along their ties."""

from sametolls.errors import BadTree, NoPost, NoWay
from sametolls.kinds import are_ascending, is_below, is_pair

MOST_TIES = 23


class Tree:
    """Posts that all lead to one another by ties, one post more than ties."""

    def __init__(self, ties):
        check_ties(ties)
        self.ties = ties
        self.posts = len(ties) + 1

    def __eq__(self, other):
        return isinstance(other, Tree) and self.ties == other.ties


def check_ties(ties):
    """Raise the error that is due for what does not tie posts to a tree."""
    if not isinstance(ties, tuple) or len(ties) > MOST_TIES:
        raise BadTree("ties")
    posts = len(ties) + 1
    for number, tie in enumerate(ties):
        if not is_tie(tie, posts) or (number > 0 and tie <= ties[number - 1]):
            raise BadTree(number)
    if len(reached(ties, 0, None)) < posts:
        raise BadTree("pieces")


def is_tie(thing, posts):
    """Whether a thing is a pair of posts, the first one less."""
    if not is_pair(thing) or not all([is_below(post, posts) for post in thing]):
        return False
    return thing[0] < thing[1]


def tied(tree, post):
    """The lot of the posts tied to a post."""
    if not is_below(post, tree.posts):
        raise NoPost()
    return neighbours(tree.ties, post)


def ways(tree):
    """The ascending list of all ways."""
    return sorted([(one, other) for one, other in tree.ties] + [(other, one) for one, other in tree.ties])


def beyond(tree, way):
    """The lot of the posts beyond a way."""
    if not is_way(tree, way):
        raise NoWay()
    here, there = way
    return reached(tree.ties, there, here)


def this_side(tree, way):
    """The lot of the posts this side of a way."""
    here, there = way
    return reached(tree.ties, here, there)


def neighbours(ties, post):
    """The lot of the posts that share a tie with a post."""
    return tuple(sorted([tie[1] if tie[0] == post else tie[0] for tie in ties if post in tie]))


def reached(ties, start, barred):
    """The lot of the posts that lead to a start without a post that is barred."""
    found = {start: True}
    waiting = [start]
    while waiting:
        here = waiting.pop()
        for post in neighbours(ties, here):
            if post != barred and post not in found:
                found[post] = True
                waiting.append(post)
    return tuple(sorted(found))


def is_way(tree, thing):
    """Whether a thing is a pair of tied posts."""
    if not is_pair(thing) or not all([is_below(post, tree.posts) for post in thing]):
        return False
    return thing in tree.ties or (thing[1], thing[0]) in tree.ties


def are_ways(tree, thing):
    """Whether a thing is an ascending tuple of ways."""
    if not isinstance(thing, tuple) or not all([is_way(tree, way) for way in thing]):
        return False
    return are_ascending(thing)


def row_of_posts(posts):
    """The tree of so many posts, each tied to the next one."""
    return Tree(tuple([(post, post + 1) for post in range(posts - 1)]))


def outward(tree):
    """The list of all ways, each behind those that lead on to it."""
    return sorted(ways(tree), key=lambda way: (len(this_side(tree, way)), way))
