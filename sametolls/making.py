"""Wants whose tolls are those of a table that nothing bars.

They are the answers of a plan that says over each way as many numbers as the table has. The toll is just as great
if nothing that is said over a way is a mixture of the rest, and no mixture of it is lost beyond. At each post it is
enough to see to this for what comes over each way, leaving out the sums that go back over it, and for what goes
out over each way, leaving out the items that come back over it.

So items and sums are put on little heaps, of one item and some sums, or of one sum and some items, such that no heap
has two of one way, or what comes over a way and what goes back over it. Each item is said in the sums of its heap.
Noughts and ones do, whatever the clock.
"""

from sametolls.plans import in_numbers
from sametolls.sheets import Sheet
from sametolls.trees import tied, ways


def made_wants(p, tree, holds, wants, table):
    """The wants of a sheet with these counts, whose tolls are those of the table."""
    heaps = [heaps_at(tree, holds, wants, table, post) for post in range(tree.posts)]
    says = {}
    for here, there in ways(tree):
        items = items_at(tree, holds, table, here, there)
        says[here, there] = rows_of(heaps[here], items, there, table[here, there])
    answers = []
    for post in range(tree.posts):
        items = items_at(tree, holds, table, post, None)
        answers.append(rows_of(heaps[post], items, post, wants[post]))
    noughts = tuple([((0,) * sum(holds),) * count for count in wants])
    return in_numbers(Sheet(p, tree, holds, noughts), (says, tuple(answers)))[1]


def items_at(tree, holds, table, here, there):
    """The items (where from, number) of which a post makes what it says on to there; what it answers for None."""
    own = [(here, number) for number in range(holds[here])]
    heard = [post for post in tied(tree, here) if post != there]
    return own + [(post, number) for post in heard for number in range(table[post, here])]


def rows_of(heaps, items, there, count):
    """The rows of the sums that leave a post for there: 1 for the items that go into a sum, 0 for others."""
    return tuple([tuple([1 if (item, (there, number)) in heaps else 0 for item in items]) for number in range(count)])


def heaps_at(tree, holds, wants, table, post):
    """The dict of the pairs (item, sum) that lie on one heap of a post.

    Items are called (where from, number), sums (where to, number), those of the post itself by the post.
    """
    come = {post: holds[post]}
    leave = {post: wants[post]}
    for other in tied(tree, post):
        come[other] = table[other, post]
        leave[other] = table[post, other]
    # If there are enough sums that each item that is heard finds one, a heap has one item, otherwise one sum.
    if sum(leave.values()) >= sum(come.values()) - holds[post]:
        return {(item, taker): True for item, taker in taken(post, come, leave)}
    return {(item, taker): True for taker, item in taken(post, leave, come)}


def taken(post, things, takers):
    """Pairs (thing, taker), both called (group, number), groups being the post itself and those tied to it.

    things and takers are dicts from groups to how many there are. Each thing of another group than the post's
    is taken, each taker of another group takes just one thing, not of its own group, and no two takers of one
    group take the same one.
    """
    found = needed(post, things, takers)
    for group in takers:
        others = [(other, number) for other in things if other != group for number in range(things[other])]
        for thing in others:
            if group != post and len(found[group]) < takers[group] and thing not in found[group]:
                found[group].append(thing)
    return [(thing, (group, number)) for group in found for number, thing in enumerate(found[group])]


def needed(post, things, takers):
    """For each group of takers a list of things of other groups, such that each thing but the post's is in one."""
    left = {group: 0 if group == post else things[group] for group in things}
    free = {group: takers[group] for group in takers}
    found = {group: [] for group in takers}
    while sum(left.values()) > 0:
        giver, taker = next_pair(left, free)
        left[giver] -= 1
        free[taker] -= 1
        found[taker].append((giver, left[giver]))
    return found


def next_pair(left, free):
    """The group of which a thing is taken next, and the other group that takes it.

    It can go on as long as no group has more things and free takers than there are free takers in all: its
    things need the takers of others. So the group that has most of both must come first.
    """
    both = {group: left[group] + free[group] for group in left}
    most = max(list(both), key=lambda group: both[group])
    if left[most] > 0:
        return most, max([group for group in free if group != most and free[group]], key=lambda group: both[group])
    return max([group for group in left if group != most and left[group]], key=lambda group: both[group]), most
