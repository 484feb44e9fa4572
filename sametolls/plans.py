"""Plans: what is said over each way, and what each post answers."""

from sametolls.clocks import first_place, ladder_of, mixed, mixtures, unit_rows
from sametolls.errors import NoPlan, NoWay, NotLeast, NotRight
from sametolls.kinds import is_pair, is_row
from sametolls.sheets import cut, held, wide_block
from sametolls.tolls import tolls
from sametolls.trees import is_way, outward, tied, ways

MOST_SAID = 60


def is_shape(sheet, thing):
    """Whether a thing is a plan for a sheet, right or wrong."""
    if not is_pair(thing) or not are_said_lists(sheet, thing[0]):
        return False
    says, answers = thing
    for here, there in says:
        if not are_rows(sheet.p, width(sheet, says, here, there), says[here, there]):
            return False
    return are_answers(sheet, says, answers)


def are_said_lists(sheet, thing):
    """Whether a thing is a dict from just all ways to tuples that are not too long."""
    paths = ways(sheet.tree)
    if not isinstance(thing, dict) or len(thing) != len(paths):
        return False
    if not all([way in thing for way in paths]):
        return False
    return all([isinstance(thing[way], tuple) and len(thing[way]) <= MOST_SAID for way in paths])


def are_answers(sheet, says, thing):
    """Whether a thing has a row for each want of each post, of a value for each item that it has then."""
    if not isinstance(thing, tuple) or len(thing) != sheet.tree.posts:
        return False
    for post, rows in enumerate(thing):
        if not isinstance(rows, tuple) or len(rows) != len(sheet.wants[post]):
            return False
        if not are_rows(sheet.p, width(sheet, says, post, None), rows):
            return False
    return True


def are_rows(p, wide, rows):
    """Whether all of a tuple are rows of so many values."""
    return all([is_row(row, p, wide) for row in rows])


def sources(tree, here, there):
    """The ways to a post from each tied one but there; from all of them for None."""
    return [(post, here) for post in tied(tree, here) if post != there]


def width(sheet, says, here, there):
    """Of how many items a post makes what it says on to there; what it answers for None."""
    return sheet.holds[here] + sum([len(says[way]) for way in sources(sheet.tree, here, there)])


def gathered(sheet, heard, starts, here, there):
    """The items of which a post makes what it says on to there; what it answers for None."""
    own = [starts[number] for number in held(sheet, here)]
    return own + [row for way in sources(sheet.tree, here, there) for row in heard[way]]


def led(sheet, plan, wide, starts):
    """All that is said and answered if each number starts as a row of so many values."""
    says, answers = plan
    heard = {}
    for way in outward(sheet.tree):
        items = gathered(sheet, heard, starts, way[0], way[1])
        heard[way] = tuple([mixed(sheet.p, wide, row, items) for row in says[way]])
    told = []
    for post, rows in enumerate(answers):
        items = gathered(sheet, heard, starts, post, None)
        told.append(tuple([mixed(sheet.p, wide, row, items) for row in rows]))
    return heard, tuple(told)


def in_numbers(sheet, plan):
    """All that a plan says and answers, put to all numbers."""
    return led(sheet, plan, sheet.numbers, unit_rows(sheet.numbers))


def wrong_answer(sheet, plan):
    """The pair (post, want) of the first answer that is not its want, or None."""
    answers = in_numbers(sheet, plan)[1]
    for post, rows in enumerate(sheet.wants):
        for want, row in enumerate(rows):
            if answers[post][want] != row:
                return post, want
    return None


def check_plan(sheet, plan):
    """Raise an error for what is no plan."""
    if not is_shape(sheet, plan):
        raise NoPlan()


def check_right(sheet, plan):
    """Raise the error that is due for what is no right plan."""
    check_plan(sheet, plan)
    if wrong_answer(sheet, plan) is not None:
        raise NotRight()


def is_right(sheet, thing):
    """Whether a thing is a plan whose answers are all what is wanted."""
    return is_shape(sheet, thing) and wrong_answer(sheet, thing) is None


def said(sheet, plan, way):
    """The rows that a plan says over a way, put to all numbers."""
    check_plan(sheet, plan)
    if not is_way(sheet.tree, way):
        raise NoWay()
    return in_numbers(sheet, plan)[0][way]


def first_wrong(sheet, plan):
    """The pair (post, want) of the first answer that is not what is wanted, or None."""
    check_plan(sheet, plan)
    return wrong_answer(sheet, plan)


def counts(sheet, plan):
    """The dict from all ways to how many numbers a plan says over them."""
    check_plan(sheet, plan)
    return {way: len(plan[0][way]) for way in ways(sheet.tree)}


def least_plan(sheet):
    """A right plan that says over each way just as many numbers as its toll."""
    paths = ways(sheet.tree)
    rungs = {way: ladder_of(sheet.p, sheet.numbers, wide_block(sheet, way)) for way in paths}
    firsts = {way: [first_place(row, sheet.numbers) for row in rungs[way]] for way in paths}
    says = {}
    for here, there in paths:
        places = read_places(sheet, firsts, here, there)
        says[here, there] = tuple([cut(row, places) for row in rungs[here, there]])
    answers = []
    for post, rows in enumerate(sheet.wants):
        places = read_places(sheet, firsts, post, None)
        answers.append(tuple([cut(row, places) for row in rows]))
    return says, tuple(answers)


def read_places(sheet, firsts, here, there):
    """The places at which a row tells how many times each item goes into it.

    A ladder's first values stand alone in their places, so that a row of its room has there
    just how many times it takes each of the ladder's rows.
    """
    heard = [place for way in sources(sheet.tree, here, there) for place in firsts[way]]
    return list(held(sheet, here)) + heard


def plan_saying(sheet, told):
    """The right plan that says over each way just these rows, which must span all that is wanted beyond it."""
    says = {way: parts_of(sheet, told, way[0], way[1], told[way]) for way in ways(sheet.tree)}
    return says, tuple([parts_of(sheet, told, post, None, rows) for post, rows in enumerate(sheet.wants)])


def parts_of(sheet, told, here, there, rows):
    """Rows put to the items of which a post makes what it says on to there; what it answers for None."""
    items = gathered(sheet, told, unit_rows(sheet.numbers), here, there)
    return tuple(mixtures(sheet.p, sheet.numbers, items, rows))


def over(sheet, plan):
    """The dict from the ways over which a right plan says more than the toll to how many more."""
    check_right(sheet, plan)
    least = tolls(sheet)
    return {way: len(plan[0][way]) - least[way] for way in least if len(plan[0][way]) > least[way]}


def translated(sheet, plan, other):
    """The dict from all ways to the rows that make what a least plan says of what a right plan says."""
    check_right(sheet, plan)
    # What over raises for the other plan is what is due for it here, too.
    if over(sheet, other):
        raise NotLeast()
    heard = in_numbers(sheet, plan)[0]
    least = in_numbers(sheet, other)[0]
    return {way: tuple(mixtures(sheet.p, sheet.numbers, heard[way], least[way])) for way in ways(sheet.tree)}
