"""What kind of thing an argument is."""

MOST_LETTERS = 8


def is_integer(thing):
    """Whether a thing is an integer, which a flag is not."""
    return isinstance(thing, int) and not isinstance(thing, bool)


def is_below(thing, end):
    """Whether a thing is a number below an end."""
    return is_integer(thing) and 0 <= thing < end


def is_pair(thing):
    """Whether a thing is a tuple of two."""
    return isinstance(thing, tuple) and len(thing) == 2


def is_row(thing, p, wide):
    """Whether a thing is a row of so many values of a clock."""
    if not isinstance(thing, tuple) or len(thing) != wide:
        return False
    return all([is_below(value, p) for value in thing])


def are_ascending(things):
    """Whether each of some things that can be compared is greater than the one ahead."""
    return all([one < other for one, other in zip(things, things[1:])])


def is_lot(thing, end):
    """Whether a thing is an ascending tuple of numbers below an end."""
    if not isinstance(thing, tuple) or not all([is_below(number, end) for number in thing]):
        return False
    return are_ascending(thing)


def is_name(thing):
    """Whether a thing is a string of 1 to 8 letters from a to z."""
    if not isinstance(thing, str) or not 1 <= len(thing) <= MOST_LETTERS:
        return False
    return all(["a" <= sign <= "z" for sign in thing])
