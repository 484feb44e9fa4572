"""Running a plan on values that are given."""

from sametolls.clocks import mixed
from sametolls.errors import NoGiven
from sametolls.kinds import is_row
from sametolls.plans import check_plan, led


def run(sheet, plan, given):
    """What is said over each way, and what each post answers, for what is given."""
    check_plan(sheet, plan)
    check_given(sheet, given)
    return run_of(sheet, plan, given)


def wanted(sheet, given):
    """What the wants of each post are for what is given."""
    check_given(sheet, given)
    starts = [(value,) for value in given]
    return tuple([bare([mixed(sheet.p, 1, row, starts) for row in rows]) for rows in sheet.wants])


def check_given(sheet, given):
    """Raise an error for what is no tuple of a value for each number."""
    if not is_row(given, sheet.p, sheet.numbers):
        raise NoGiven()


def run_of(sheet, plan, given):
    """What run tells, for what is known to be a plan and a given."""
    heard, answers = led(sheet, plan, 1, [(value,) for value in given])
    return {way: bare(heard[way]) for way in heard}, tuple([bare(rows) for rows in answers])


def bare(rows):
    """The values of rows of one value."""
    return tuple([row[0] for row in rows])
