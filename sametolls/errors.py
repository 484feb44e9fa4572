"""The errors of the whole program."""


class TollError(ValueError):
    """What all errors of this package are."""


class NoClock(TollError):
    """A thing is no clock of a prime number of hours."""


class NoNumber(TollError):
    """A thing is no number, or not one of those that may stand there."""


class NoRow(TollError):
    """A thing is no row of as many values as are due."""


class NoPost(TollError):
    """A thing is no post of the tree."""


class NoWay(TollError):
    """A thing is no way of the tree."""


class NoPlan(TollError):
    """A thing is no plan for the sheet."""


class NotRight(TollError):
    """A plan answers some want with another sum."""


class NotLeast(TollError):
    """A right plan says more over some way than its toll."""


class NoGiven(TollError):
    """A thing does not give a value for each number."""


class NoWays(TollError):
    """A thing is no ascending tuple of ways."""


class NoOrder(TollError):
    """A thing is no order of all posts."""


class NoLot(TollError):
    """A thing is no lot of what may stand in it."""


class NotUndoable(TollError):
    """A sheet cannot be undone."""


class NotAfter(TollError):
    """A sheet cannot be put behind another one."""


class NotAlike(TollError):
    """Two things are not alike enough to be taken together."""


class NoAnswers(TollError):
    """A thing does not give a value for each want."""


class NoCounts(TollError):
    """A thing does not give a count for each post."""


class NoTable(TollError):
    """A thing is no table of the form that is due."""


class NotSure(TollError):
    """Rules do not have just one solution."""


class NoRule(TollError):
    """A thing is no rule, or no number of one."""


class NotRow(TollError):
    """A tree is no row of posts."""


class NoTick(TollError):
    """A thing is no tick that may stand there."""


class NoCut(TollError):
    """A thing is no cut between two posts."""


class NoHours(TollError):
    """A thing does not give an hour for each post."""


class NotOne(TollError):
    """Some post does not hold one number and want one sum."""


class NotPlanned(TollError):
    """A thing is no pacing of the plan."""


class NoProgram(TollError):
    """A thing is no program of strangers."""


class NoWant(TollError):
    """A thing is no want of the post."""


class NoValue(TollError):
    """A thing is no value of the clock."""


class NoValues(TollError):
    """A thing is no dict from numbers to values."""


class NotEmpty(TollError):
    """A post still holds, wants or ties together something."""


class Full(TollError):
    """There is no room for one more."""


class NothingDone(TollError):
    """There is nothing to take back, or to do again."""


class NoLine(TollError):
    """A thing is no line of the desk."""


class TooLong(TollError):
    """A tale would do too many lines."""


class NoRows(TollError):
    """The thing at this index is no row; at -1 the rows are none at all."""

    def __init__(self, index):
        self.index = index


class BadTree(TollError):
    """This part of what was passed makes no tree."""

    def __init__(self, part):
        self.part = part


class BadSheet(TollError):
    """This part of what was passed makes no sheet."""

    def __init__(self, part):
        self.part = part


class BadRules(TollError):
    """This part of what was passed makes no rules."""

    def __init__(self, part):
        self.part = part


class BadTiming(TollError):
    """This part of what was passed makes no timing."""

    def __init__(self, part):
        self.part = part


class TooMany(TollError):
    """There are more than this many."""

    def __init__(self, most):
        self.most = most


class BadText(TollError):
    """This line of a text has not the form that is due."""

    def __init__(self, line):
        self.line = line


class Barred(TollError):
    """A table asks more of this way than this post allows."""

    def __init__(self, post, way):
        self.post = post
        self.way = way


class BadSaid(TollError):
    """A program says no letters at this tick and post."""

    def __init__(self, tick, post):
        self.tick = tick
        self.post = post


class BadAnswer(TollError):
    """A program has no answers for this post."""

    def __init__(self, post):
        self.post = post


class NoMark(TollError):
    """This is no name of a mark, or no mark stands there."""

    def __init__(self, name):
        self.name = name


class BadJournal(TollError):
    """The entry of this number cannot be done again."""

    def __init__(self, number):
        self.number = number


class NoName(TollError):
    """Nothing of its sort is kept under this name."""

    def __init__(self, name):
        self.name = name


class BadTale(TollError):
    """This line of a tale has not the form that is due."""

    def __init__(self, line):
        self.line = line


class Failed(TollError):
    """This line of a tale raised an error."""

    def __init__(self, line):
        self.line = line
