"""What listeners on some ways learn."""

from sametolls.clocks import ladder_of, mixture, parting
from sametolls.errors import NoWays
from sametolls.plans import check_plan, in_numbers
from sametolls.runs import check_given, run_of
from sametolls.sheets import wide_block
from sametolls.trees import are_ways


def check_ways(sheet, ways):
    """Raise an error for what is no ascending tuple of ways."""
    if not are_ways(sheet.tree, ways):
        raise NoWays()


def learnt(sheet, plan, ways):
    """The ladder of all rows whose sums a listener on some ways knows."""
    check_plan(sheet, plan)
    check_ways(sheet, ways)
    heard = in_numbers(sheet, plan)[0]
    return ladder_of(sheet.p, sheet.numbers, [row for way in ways for row in heard[way]])


def surely_learnt(sheet, ways):
    """The ladder of all rows whose sums a listener knows whatever right plan is used."""
    check_ways(sheet, ways)
    return ladder_of(sheet.p, sheet.numbers, [row for way in ways for row in wide_block(sheet, way)])


def can_hide(sheet, ways, row):
    """Whether some right plan leaves a listener without the sum of a row."""
    rows = surely_learnt(sheet, ways)
    return mixture(sheet.p, sheet.numbers, rows, row) is None


def alike(sheet, plan, ways, one, other):
    """Whether a listener hears the same for two givens."""
    check_plan(sheet, plan)
    check_ways(sheet, ways)
    check_given(sheet, one)
    check_given(sheet, other)
    first = run_of(sheet, plan, one)[0]
    second = run_of(sheet, plan, other)[0]
    return all([first[way] == second[way] for way in ways])


def twin(sheet, plan, ways, given, row):
    """Another given that sounds the same and has another sum of a row; None if there is none."""
    rows = learnt(sheet, plan, ways)
    check_given(sheet, given)
    parts = parting(sheet.p, sheet.numbers, rows, row)
    if parts is None:
        return None
    return tuple([(value + part) % sheet.p for value, part in zip(given, parts)])
