"""Doing again what a journal tells."""

from sametolls.changes import is_change
from sametolls.errors import BadJournal, TollError
from sametolls.nets import Net


def replayed(sheet, given, journal):
    """A net led by all changes of a journal, one behind the other."""
    net = Net(sheet, given)
    if not isinstance(journal, (list, tuple)):
        raise BadJournal(-1)
    for number, entry in enumerate(journal):
        if not is_change(entry):
            raise BadJournal(number)
        try:
            net.change(entry)
        except TollError:
            raise BadJournal(number) from None
    return net
