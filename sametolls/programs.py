"""Programs by which the posts talk to and fro, and what can be said of whatever program they use."""

from sametolls.clocks import power, product_of
from sametolls.errors import BadAnswer, BadSaid, NoProgram, NoWay, TooMany
from sametolls.kinds import is_below, is_row
from sametolls.plans import check_plan, sources
from sametolls.runs import check_given, wanted
from sametolls.sheets import cut, held, near_numbers
from sametolls.trees import beyond, is_way, outward, tied, ways

MOST_TICKS = 40
MOST_GIVENS = 4096


def talked(sheet, program, given):
    """All that is said over each way, tick by tick, and what the posts answer."""
    check_program(program)
    check_given(sheet, given)
    return talk_of(sheet, program, given)


def first_failed(sheet, program):
    """The first given at which some answer is not what is wanted, or None."""
    check_program(program)
    check_givens(sheet)
    for number in range(power(sheet.p, sheet.numbers)):
        given = given_at(sheet, number)
        if talk_of(sheet, program, given)[1] != wanted(sheet, given):
            return given
    return None


def talks(sheet, program, way):
    """How many unlike talks there are over a way."""
    found = all_talks(sheet, program, way)
    return len(set([talk for _, talk in found]))


def fooled(sheet, program, way):
    """Two givens that look and sound the same beyond a way, where unlike sums are wanted; None if there are none."""
    found = all_talks(sheet, program, way)
    near = near_numbers(sheet, way)
    far = [number for number in range(sheet.numbers) if number not in near]
    firsts = {}
    for given, talk in found:
        sums = wanted(sheet, given)
        beyond_sums = [sums[post] for post in beyond(sheet.tree, way)]
        other, other_sums = firsts.setdefault((cut(given, far), talk), (given, beyond_sums))
        if other_sums != beyond_sums:
            return other, given
    return None


def all_talks(sheet, program, way):
    """The pairs of each given, in their order, and what is said over a way then."""
    check_program(program)
    if not is_way(sheet.tree, way):
        raise NoWay()
    check_givens(sheet)
    givens = [given_at(sheet, number) for number in range(power(sheet.p, sheet.numbers))]
    return [(given, talk_of(sheet, program, given)[0][way]) for given in givens]


def check_program(program):
    """Raise an error for what is no program."""
    if not isinstance(program, tuple) or len(program) != 3 or not is_below(program[0], MOST_TICKS + 1):
        raise NoProgram()


def check_givens(sheet):
    """Raise an error for a sheet of too many givens."""
    if power(sheet.p, sheet.numbers) > MOST_GIVENS:
        raise TooMany(MOST_GIVENS)


def given_at(sheet, number):
    """The given of a number among all of them, which are ascending."""
    values = []
    for _ in range(sheet.numbers):
        number, value = divmod(number, sheet.p)
        values.append(value)
    return tuple(values[::-1])


def talk_of(sheet, program, given):
    """What talked tells, for what is known to be a program and a given."""
    last, say, answer = program
    posts = range(sheet.tree.posts)
    others = [tied(sheet.tree, post) for post in posts]
    owns = [cut(given, held(sheet, post)) for post in posts]
    heard = [() for _ in posts]
    talk = {way: () for way in ways(sheet.tree)}
    for tick in range(last):
        said = {}
        for post in posts:
            values = say(tick, post, owns[post], heard[post])
            if not is_row(values, sheet.p, len(others[post])):
                raise BadSaid(tick, post)
            for other, value in zip(others[post], values):
                said[post, other] = value
        talk = {way: talk[way] + (said[way],) for way in talk}
        heard = [heard[post] + (tuple([said[other, post] for other in others[post]]),) for post in posts]
    answers = []
    for post in posts:
        values = answer(post, owns[post], heard[post])
        if not is_row(values, sheet.p, len(sheet.wants[post])):
            raise BadAnswer(post)
        answers.append(values)
    return talk, tuple(answers)


def ends(sheet, plan):
    """The dict from all ways to the tick at whose beginning all is said over them, a number in each tick."""
    check_plan(sheet, plan)
    return ends_of(sheet, plan[0])


def ends_of(sheet, says):
    """What ends tells, for what is said by a plan."""
    found = {}
    for here, there in outward(sheet.tree):
        count = len(says[here, there])
        ahead = max([0] + [found[way] for way in sources(sheet.tree, here, there)])
        found[here, there] = ahead + count if count > 0 else 0
    return found


def as_program(sheet, plan):
    """A program whose answers are those of a plan: each post says what it has to as soon as it has heard all for it."""
    found = ends(sheet, plan)
    last = max([0] + list(found.values()))
    if last > MOST_TICKS:
        raise TooMany(MOST_TICKS)
    # What is passed may be changed later on.
    says = {way: plan[0][way] for way in plan[0]}
    answers = plan[1]

    def say(tick, post, own, heard):
        return tuple([letter(sheet, says, found, (post, there), tick, own, heard) for there in tied(sheet.tree, post)])

    def answer(post, own, heard):
        items = items_of(sheet, says, found, (post, None), own, heard)
        return tuple([product_of(sheet.p, row, items) for row in answers[post]])

    return last, say, answer


def letter(sheet, says, found, way, tick, own, heard):
    """The letter that a plan has for a way in a tick; 0 where it has none."""
    rows = says[way]
    number = tick - (found[way] - len(rows))
    if not is_below(number, len(rows)):
        return 0
    return product_of(sheet.p, rows[number], items_of(sheet, says, found, way, own, heard))


def items_of(sheet, says, found, way, own, heard):
    """The values of which a post makes what it says over a way; what it answers for a way to None."""
    here, there = way
    others = tied(sheet.tree, here)
    items = list(own)
    for source in sources(sheet.tree, here, there):
        end = found[source]
        place = others.index(source[0])
        items += [values[place] for values in heard[end - len(says[source]):end]]
    return items
