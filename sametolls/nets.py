"""A live net: a sheet, values, and what is said over each way, all of which can change and be taken back."""

from sametolls.changes import changed, settled
from sametolls.clocks import rank_of
from sametolls.errors import NoLot, NoMark, NothingDone, NoValues, NoWay
from sametolls.kinds import is_integer, is_lot, is_name
from sametolls.plans import least_plan, plan_saying
from sametolls.runs import check_given, wanted
from sametolls.sheets import Sheet, masked, wide_block
from sametolls.trees import is_way, ways


class Net:
    """A sheet and a given, changed step by step.

    All that was so far is kept in one tuple: the states, the changes between them, how many of these are done and
    not taken back, and the dict of marks. No part of it is ever changed in its place, so that whoever keeps the
    tuple keeps all.
    """

    def __init__(self, sheet, given):
        check_given(sheet, given)
        self._story = (settled(sheet, given, {}),), (), 0, {}

    def _state(self):
        states, _, done, _ = self._story
        return states[done]

    def sheet(self):
        """The sheet as it is now."""
        return self._state()[0]

    def given(self):
        """The values as they are now."""
        return self._state()[1]

    def answers(self):
        """What is wanted now."""
        return wanted(self.sheet(), self.given())

    def toll(self, way):
        """The toll of a way."""
        return len(self.rows(way))

    def rows(self, way):
        """The rows that are said over a way, put to all numbers."""
        sheet, _, says = self._state()
        if not is_way(sheet.tree, way):
            raise NoWay()
        return says[way]

    def plan(self):
        """A right plan that says just the rows over all ways."""
        sheet, _, says = self._state()
        return plan_saying(sheet, says)

    def set_want(self, post, want, row):
        """Another row in the place of a want."""
        self.change(("set_want", post, want, row))

    def add_want(self, post, row):
        """A want more of a post, behind its others."""
        self.change(("add_want", post, row))

    def drop_want(self, post, want):
        """A want less of a post."""
        self.change(("drop_want", post, want))

    def add_number(self, post, value):
        """A number more of a post, behind its others."""
        self.change(("add_number", post, value))

    def drop_number(self, number):
        """A number less."""
        self.change(("drop_number", number))

    def add_post(self, post):
        """A post more, tied to a post."""
        self.change(("add_post", post))

    def drop_post(self, post):
        """A post less, which is tied to just one, holds and wants nothing."""
        self.change(("drop_post", post))

    def set_value(self, number, value):
        """Another value of a number."""
        self.change(("set_value", number, value))

    def set_values(self, values):
        """Other values of some numbers, all at once."""
        if not isinstance(values, dict) or not all([is_integer(number) for number in values]):
            raise NoValues()
        self.change(("set_values", tuple([(number, values[number]) for number in sorted(values)])))

    def change(self, entry):
        """Do a change, told as a journal tells it; those that were taken back cannot be done again then."""
        states, entries, done, marks = self._story
        state = changed(states[done], entry)
        left = {name: marks[name] for name in marks if marks[name] <= done}
        self._story = states[:done + 1] + (state,), entries[:done] + (entry,), done + 1, left

    def anew(self, lot):
        """The dict from all ways to how many numbers must be said over them if just those of a lot change."""
        sheet = self._of_lot(lot)
        return {way: rank_of(sheet.p, sheet.numbers, wide_block(sheet, way)) for way in ways(sheet.tree)}

    def renewal(self, lot):
        """A plan that says just so much, and answers what is to be added."""
        return least_plan(self._of_lot(lot))

    def _of_lot(self, lot):
        """The sheet whose rows have 0 for all numbers that are not of a lot."""
        sheet = self.sheet()
        if not is_lot(lot, sheet.numbers):
            raise NoLot()
        wants = tuple([masked(sheet, rows, lot) for rows in sheet.wants])
        return Sheet(sheet.p, sheet.tree, sheet.holds, wants)

    def undo(self):
        """Take back the last change that is not taken back."""
        if self.deeds() == 0:
            raise NothingDone()
        self._go(self.deeds() - 1)

    def redo(self):
        """Do the change again that was taken back last."""
        if self.deeds() == len(self._story[1]):
            raise NothingDone()
        self._go(self.deeds() + 1)

    def _go(self, number):
        states, entries, _, marks = self._story
        self._story = states, entries, number, marks

    def deeds(self):
        """How many changes can be taken back."""
        return self._story[2]

    def mark(self, name):
        """Set a mark at the number of deeds."""
        if not is_name(name):
            raise NoMark(name)
        states, entries, done, marks = self._story
        self._story = states, entries, done, {**marks, name: done}

    def marks(self):
        """The ascending tuple of the names of marks."""
        return tuple(sorted(self._story[3]))

    def go_to(self, name):
        """Go by undo and redo to where a mark stands."""
        marks = self._story[3]
        if not is_name(name) or name not in marks:
            raise NoMark(name)
        self._go(marks[name])

    def copy(self):
        """Another net that goes on apart."""
        other = Net(self.sheet(), self.given())
        other._story = self._story
        return other

    def trying(self, action):
        """What a function returns for the net; all is then as it was."""
        story = self._story
        try:
            return action(self)
        finally:
            self._story = story

    def story(self):
        """All that was so far, to be taken up again."""
        return self._story

    def take_up(self, story):
        """Have all as it was when its story was told."""
        self._story = story

    def journal(self):
        """The list of the changes that are done and not taken back."""
        _, entries, done, _ = self._story
        return list(entries[:done])
