"""What several tests need: odd things, sheets made by a rule, and plain ways to work things out."""

from itertools import product

from sametolls.clocks import mixture
from sametolls.errors import NoRows, NoWay
from sametolls.openings import Timing
from sametolls.rulesheets import Rules
from sametolls.sheets import Sheet
from sametolls.trees import Tree, ways

ROW_OF_THREE = Tree(((0, 1), (1, 2)))
EXAMPLE = Sheet(5, ROW_OF_THREE, (1, 1, 1), (((1, 0, 0),), ((1, 1, 0),), ((0, 1, 1),)))


def nested(kind, depth):
    """A thing in a thing in a thing, so deep."""
    thing = 0
    for _ in range(depth):
        thing = {"list": [thing], "tuple": (thing,), "pair": (thing, thing) if depth < 9 else (0, thing),
                 "dict": {0: thing}, "error": NoRows(thing)}[kind]
    return thing


def odd_things():
    """Things that are no number, no tuple, no list and no dict."""
    return [None, True, False, "", "0", "ab", b"", b"0", bytearray(b"ab"), memoryview(b"ab"), range(0), range(2),
            iter([]), iter((1, 2)), (value for value in (0, 1)), zip(), slice(0, 1), Ellipsis, NotImplemented,
            object(), int, tuple, Tree, len, odd_things, lambda: 0, "x" * 20000, EXAMPLE, ROW_OF_THREE, Tree(()),
            NoWay(), NoRows((0, 1)), NoRows, nested("error", 40)]


def deep_things():
    """Things that hold others, up to 40 deep, and such that hold very many."""
    found = [nested(kind, 40) for kind in ("list", "tuple", "pair", "dict")]
    found += [nested(kind, 3) for kind in ("list", "tuple", "pair", "dict")]
    found += [((nested("list", 39),),), {(0, 1): nested("tuple", 38)}, [(0,) * 10000] * 2, (None,) * 19999,
              ({}, nested("pair", 39)), ([], ()), ([0], [1]), ((), {}), ({}, {}), {0: {}}, {None: None},
              ((None, 0), (0, None)), (("a", "b"), ("c", "d")), ([{}],), {"says": ()}, {(0, (0, 1)): 0}]
    return found


def all_odd():
    """All odd things, nested ones and numbers far from all limits."""
    return odd_things() + deep_things() + [-1, -(10 ** 60) + 1, 10 ** 60 - 1]


class Dice:
    """A row of numbers that looks as if thrown, the same one each time."""

    def __init__(self, seed):
        self.state = seed * 2654435761 % 4294967296

    def below(self, end):
        """The next number below an end."""
        self.state = (self.state * 6364136223846793005 + 1442695040888963407) % 2 ** 64
        return (self.state >> 33) % end

    def row(self, p, wide):
        """A row of values, some of them 0 more often than others."""
        often = self.below(4)
        return tuple(self.below(p) if self.below(4) >= often else 0 for _ in range(wide))

    def mixed(self, things):
        """The things in another order."""
        left = list(things)
        return [left.pop(self.below(len(left))) for _ in range(len(left))]


def row_tree(posts):
    """Posts one behind the other."""
    return Tree(tuple((post, post + 1) for post in range(posts - 1)))


def star_tree(posts, middle=0):
    """Posts that are all tied to one."""
    ties = [(min(post, middle), max(post, middle)) for post in range(posts) if post != middle]
    return Tree(tuple(sorted(ties)))


def some_tree(dice, posts):
    """A tree of so many posts, in whatever order they are called."""
    names = dice.mixed(range(posts))
    ties = [(names[dice.below(post)], names[post]) for post in range(1, posts)]
    return Tree(tuple(sorted((min(tie), max(tie)) for tie in ties)))


def some_sheet(dice, p, tree, most_held, most_wanted):
    """A sheet on a tree; some wants are mixtures of others, so that tolls are less than they could be."""
    holds = tuple(dice.below(most_held + 1) for _ in range(tree.posts))
    ahead = []
    wants = []
    for _ in range(tree.posts):
        rows = []
        for _ in range(dice.below(most_wanted + 1)):
            row = dice.row(p, sum(holds))
            if ahead and dice.below(3) == 0:
                row = add(p, ahead[dice.below(len(ahead))], times(p, dice.below(p), ahead[dice.below(len(ahead))]))
            ahead.append(row)
            rows.append(row)
        wants.append(tuple(rows))
    return Sheet(p, tree, holds, tuple(wants))


def some_sheets(seed, count, most_posts=5, most_held=2, most_wanted=2, clocks=(2, 3, 5, 999983)):
    """Sheets on all kinds of trees and clocks."""
    dice = Dice(seed)
    found = [EXAMPLE]
    for number in range(count):
        posts = 1 + dice.below(most_posts)
        tree = [row_tree(posts), star_tree(posts, dice.below(posts)), some_tree(dice, posts)][number % 3]
        found.append(some_sheet(dice, clocks[dice.below(len(clocks))], tree, most_held, most_wanted))
    return found


def dealt(counts, things):
    """Things dealt out, so many to each post."""
    left = list(things)
    return tuple(tuple(left.pop(0) for _ in range(count)) for count in counts)


def flat(things):
    """All that is in some tuples, one behind the other."""
    return [thing for part in things for thing in part]


def some_counts(dice, posts, total):
    """Counts up to 8 for posts, so many in all."""
    counts = [0] * posts
    while sum(counts) < total:
        post = dice.below(posts)
        counts[post] += counts[post] < 8
    return tuple(counts)


def invertible_rows(dice, p, wide):
    """As many rows as they are long, made of those with 1 in one place by steps that can be taken back."""
    rows = dice.mixed(units(wide))
    for _ in range(3 * wide if wide > 1 else 0):
        one = dice.below(wide)
        other = (one + 1 + dice.below(wide - 1)) % wide
        rows[one] = add(p, times(p, 1 + dice.below(p - 1), rows[one]), times(p, dice.below(p), rows[other]))
    return rows


def undoable_sheet(dice, p, tree, total):
    """A sheet of so many numbers that can be undone."""
    holds = some_counts(dice, tree.posts, total)
    wants = holds if dice.below(3) == 0 else some_counts(dice, tree.posts, total)
    return Sheet(p, tree, holds, dealt(wants, invertible_rows(dice, p, total)))


def undoable_sheets(seed, count, most_posts=5, most_numbers=6, clocks=(2, 3, 101, 999983)):
    """Sheets that can be undone, on all kinds of trees and clocks."""
    dice = Dice(seed)
    found = [EXAMPLE, Sheet(2, Tree(()), (0,), ((),))]
    for number in range(count):
        posts = 1 + dice.below(most_posts)
        tree = [row_tree(posts), star_tree(posts, dice.below(posts)), some_tree(dice, posts)][number % 3]
        p = clocks[dice.below(len(clocks))]
        found.append(undoable_sheet(dice, p, tree, dice.below(min(most_numbers, 8 * posts) + 1)))
    return found


def near_places(tree, unknowns, post):
    """The places of the unknowns of a post and of those tied to it."""
    near = [post] + [one + other - post for one, other in tree.ties if post in (one, other)]
    owners = [owner for owner in range(tree.posts) for _ in range(unknowns[owner])]
    return [place for place, owner in enumerate(owners) if owner in near]


def rule_row(dice, p, tree, unknowns, post):
    """A row that a rule of a post can have."""
    near = near_places(tree, unknowns, post)
    row = dice.row(p, sum(unknowns))
    return tuple(value if place in near else 0 for place, value in enumerate(row))


def some_rules(dice, p, tree, unknowns, counts):
    """Rules of these counts; most of them hold for one tuple of values, so that there often are solutions."""
    values = tuple(dice.below(p) for _ in range(sum(unknowns)))
    rarely = dice.below(3) * 4
    found = []
    for post in range(tree.posts):
        rows = [rule_row(dice, p, tree, unknowns, post) for _ in range(counts[post])]
        found.append(tuple((row, (dot(p, row, values) + (rarely > 0 and dice.below(rarely) == 0)) % p) for row in rows))
    return Rules(p, tree, unknowns, tuple(found))


def some_rule_sheets(seed, count, most_posts=4, most_unknowns=2, most_rules=2, clocks=(2, 3, 101, 999983)):
    """Rules on all kinds of trees and clocks."""
    dice = Dice(seed)
    found = []
    for number in range(count):
        posts = 1 + dice.below(most_posts)
        tree = [row_tree(posts), star_tree(posts, dice.below(posts)), some_tree(dice, posts)][number % 3]
        unknowns = tuple(dice.below(most_unknowns + 1) for _ in range(posts))
        counts = tuple(dice.below(most_rules + 1) for _ in range(posts))
        found.append(some_rules(dice, clocks[dice.below(len(clocks))], tree, unknowns, counts))
    return found


def great_sheet(p=999983, tree=None):
    """A sheet with 24 posts, 60 numbers and 60 wants."""
    tree = row_tree(24) if tree is None else tree
    dice = Dice(60)
    counts = tuple(3 if post % 2 == 0 else 2 for post in range(24))
    return Sheet(p, tree, counts, tuple(tuple(dice.row(p, 60) for _ in range(count)) for count in counts))


def add(p, one, other):
    """Two rows added."""
    return tuple((a + b) % p for a, b in zip(one, other))


def times(p, factor, row):
    """A row so many times."""
    return tuple(factor * value % p for value in row)


def dot(p, one, other):
    """The sum of the products of two rows, place by place."""
    return sum(a * b for a, b in zip(one, other)) % p


def mix(p, wide, factors, rows):
    """Rows, each so many times, added up."""
    total = (0,) * wide
    for factor, row in zip(factors, rows):
        total = add(p, total, times(p, factor, row))
    return total


def all_rows(p, wide):
    """All rows of so many values, ascending."""
    return list(product(range(p), repeat=wide))


def room(p, wide, rows):
    """The set of all mixtures, by adding each row as often as can be."""
    found = {(0,) * wide}
    for row in rows:
        if row not in found:
            found = {add(p, one, times(p, factor, row)) for one in found for factor in range(p)}
    return found


def own_rank(p, rows):
    """The rank of rows, by clearing place after place."""
    left = [row for row in rows if any(row)]
    many = 0
    while left:
        head = left.pop()
        place = min(at for at, value in enumerate(head) if value)
        factor = pow(head[place], -1, p)
        left = [add(p, row, times(p, -factor * row[place] % p, head)) for row in left]
        left = [row for row in left if any(row)]
        many += 1
    return many


def is_spanned(p, rows, row):
    """Whether a row is a mixture of rows."""
    return own_rank(p, list(rows) + [row]) == own_rank(p, rows)


def path(tree, start, end):
    """The posts from one to another, by trying all."""
    trails = [[start]]
    while True:
        trail = trails.pop()
        if trail[-1] == end:
            return trail
        for one, other in tree.ties:
            for here, there in ((one, other), (other, one)):
                if here == trail[-1] and there not in trail:
                    trails.append(trail + [there])


def near_posts(tree, way):
    """The posts this side of a way: those whose path to there leads over it."""
    return [post for post in range(tree.posts) if path(tree, post, way[1])[-2:] == list(way)]


def numbers_at(sheet, post):
    """The numbers that a post holds, by counting."""
    owners = [owner for owner in range(sheet.tree.posts) for _ in range(sheet.holds[owner])]
    return [number for number, owner in enumerate(owners) if owner == post]


def near_of(sheet, way):
    """The numbers held this side of a way."""
    return sorted(number for post in near_posts(sheet.tree, way) for number in numbers_at(sheet, post))


def wants_beyond(sheet, way):
    """The pairs (post, want) of all wants beyond a way."""
    near = near_posts(sheet.tree, way)
    return [(post, want) for post in range(sheet.tree.posts) if post not in near
            for want in range(len(sheet.wants[post]))]


def spread_block(sheet, way):
    """The rows of a block with noughts for numbers beyond."""
    near = near_of(sheet, way)
    return [tuple(value if number in near else 0 for number, value in enumerate(sheet.wants[post][want]))
            for post, want in wants_beyond(sheet, way)]


def opening_ticks(opening, ticks):
    """How many numbers an opening lets through in each tick from 1 on."""
    found = list(opening[0])
    while len(found) < ticks:
        found += opening[1]
    return found[:ticks]


def spaces(timing, way, ticks):
    """How many numbers can be sent over a way in each tick from 1 on."""
    here, there = way
    return opening_ticks(timing.right[here] if here < there else timing.left[there], ticks)


def some_timing(dice, ties, late=6):
    """A timing of small openings; some ties open late, some rarely."""
    def opening():
        begin = tuple(dice.below(2) for _ in range(dice.below(late)))
        if dice.below(3) == 0:
            return begin, (0,) * dice.below(4) + (1 + dice.below(2),)
        return begin, tuple(dice.below(3) for _ in range(dice.below(4))) + (1,)
    right = tuple(opening() for _ in range(ties))
    return Timing(right, tuple(opening() for _ in range(ties)))


def row_sheets(seed, count, most_posts=5, most_held=2, most_wanted=2, clocks=(2, 3, 5, 999983)):
    """Sheets on rows of posts."""
    dice = Dice(seed)
    found = [EXAMPLE, Sheet(2, Tree(()), (1,), (((1,),),)), Sheet(3, row_tree(3), (0, 0, 0), ((), (), ()))]
    for _ in range(count):
        tree = row_tree(1 + dice.below(most_posts))
        found.append(some_sheet(dice, clocks[dice.below(len(clocks))], tree, most_held, most_wanted))
    return found


def rank_between(sheet, one, other):
    """The rank of what must be led from one post of a row to another."""
    posts = range(sheet.tree.posts)
    ahead = [post for post in posts if (post <= one if one < other else post >= one)]
    far = [post for post in posts if (post >= other if one < other else post <= other)]
    numbers = [number for post in ahead for number in numbers_at(sheet, post)]
    return own_rank(sheet.p, [tuple(row[number] for number in numbers) for post in far for row in sheet.wants[post]])


def units(wide):
    """The rows that are 1 in one place."""
    return [tuple(int(place == other) for other in range(wide)) for place in range(wide)]


def ways_in(tree, here, there):
    """The ways to here from all tied posts but there, ascending."""
    return [way for way in sorted(ways(tree)) if way[1] == here and way[0] != there]


def items_at(sheet, told, here, there):
    """The rows of the items that a post has for what it says on to there."""
    own = [units(sheet.numbers)[number] for number in numbers_at(sheet, here)]
    return own + [row for way in ways_in(sheet.tree, here, there) for row in told[way]]


def plan_saying(sheet, told):
    """The plan that says over each way just these rows of numbers, and answers what is wanted."""
    says = {}
    for here, there in told:
        items = items_at(sheet, told, here, there)
        says[here, there] = tuple(mixture(sheet.p, sheet.numbers, items, row) for row in told[here, there])
    answers = []
    for post, rows in enumerate(sheet.wants):
        items = items_at(sheet, told, post, None)
        answers.append(tuple(mixture(sheet.p, sheet.numbers, items, row) for row in rows))
    return says, tuple(answers)


def full_plan(sheet):
    """The plan that says all numbers on everywhere."""
    rows = units(sheet.numbers)
    return plan_saying(sheet, {way: [rows[number] for number in near_of(sheet, way)] for way in ways(sheet.tree)})


def heard_by(sheet, plan, given, way):
    """What is said over a way, by asking post after post."""
    return spoken(sheet, plan, given, way[0], way[1], plan[0][way])


def spoken(sheet, plan, given, here, there, rows):
    """What a post makes of all that it has, for each of some rows."""
    items = [given[number] for number in numbers_at(sheet, here)]
    for way in ways_in(sheet.tree, here, there):
        items += heard_by(sheet, plan, given, way)
    return [sum(a * b for a, b in zip(row, items)) % sheet.p for row in rows]


def all_heard(sheet, plan, given):
    """What run is to tell."""
    heard = {way: tuple(heard_by(sheet, plan, given, way)) for way in ways(sheet.tree)}
    answers = tuple(tuple(spoken(sheet, plan, given, post, None, rows)) for post, rows in enumerate(plan[1]))
    return heard, answers


def all_wanted(sheet, given):
    """What wanted is to tell."""
    return tuple(tuple(dot(sheet.p, row, given) for row in rows) for rows in sheet.wants)


def error_of(call, *args):
    """The class of the error that a call raises and what it keeps; None if it raises none."""
    try:
        call(*args)
    except ValueError as error:
        return type(error).__name__, vars(error)
    return None
