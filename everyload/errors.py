"""All errors that the program raises.

Each class sets its attributes itself and hands nothing to its base class:
what stands in them may be anything, so no message is made of it.
"""


class ValueFault(ValueError):
    """Something that was handed in is not what was due."""


class StateFault(LookupError):
    """What was asked for cannot be done with the things as they are."""


class LimitFault(ArithmeticError):
    """What was asked for is above a limit of the program."""


class NotALoad(ValueFault):
    """A Load was due."""

    def __init__(self, value):
        self.value = value


class NotAHandler(ValueFault):
    """A Handler was due."""

    def __init__(self, value):
        self.value = value


class NotAWeb(ValueFault):
    """A Web was due."""

    def __init__(self, value):
        self.value = value


class InvalidName(ValueFault):
    """A name was due."""

    def __init__(self, value):
        self.value = value


class InvalidText(ValueFault):
    """The text of such a thing was due."""

    def __init__(self, value):
        self.value = value


class InvalidNumber(ValueFault):
    """An integer within the bounds was due."""

    def __init__(self, value):
        self.value = value


class InvalidRest(ValueFault):
    """A rest of the web was due."""

    def __init__(self, value):
        self.value = value


class InvalidChoice(ValueFault):
    """A kind that waits was due."""

    def __init__(self, value):
        self.value = value


class InvalidLine(ValueFault):
    """A line that the console knows was due."""

    def __init__(self, value):
        self.value = value


class UnknownKind(ValueFault):
    """One of the kinds in question was due."""

    def __init__(self, value):
        self.value = value


class InvalidPairs(ValueFault):
    """A tuple of pairs was due."""

    def __init__(self, index):
        self.index = index


class InvalidKinds(ValueFault):
    """A tuple of different names was due."""

    def __init__(self, index):
        self.index = index


class InvalidRows(ValueFault):
    """A tuple of rows of steps was due."""

    def __init__(self, index):
        self.index = index


class InvalidNames(ValueFault):
    """A tuple of names was due."""

    def __init__(self, index):
        self.index = index


class InvalidHandlers(ValueFault):
    """Handlers with kinds of their own were due."""

    def __init__(self, index):
        self.index = index


class InvalidEntries(ValueFault):
    """A tuple of different kinds was due."""

    def __init__(self, index):
        self.index = index


class InvalidIndexes(ValueFault):
    """An ascending tuple of places was due."""

    def __init__(self, index):
        self.index = index


class InvalidTerms(ValueFault):
    """A tuple of terms was due."""

    def __init__(self, index):
        self.index = index


class InvalidDeeds(ValueFault):
    """Deeds were due."""

    def __init__(self, index):
        self.index = index


class Lacking(StateFault):
    """A load has too few messages of this name."""

    def __init__(self, name):
        self.name = name


class Heeds(StateFault):
    """A handler heeds at a reachable state, for two of its kinds."""

    def __init__(self, state, one, other):
        self.state = state
        self.one = one
        self.other = other


class NotLasting(StateFault):
    """A lasting rest was due."""

    def __init__(self, rest):
        self.rest = rest


class Meddling(StateFault):
    """Kinds meddle, as this load shows."""

    def __init__(self, load):
        self.load = load


class Refused(StateFault):
    """An exchange would be noticed, as this load shows."""

    def __init__(self, load):
        self.load = load


class Endless(StateFault):
    """A web would not come to an end."""


class NotComparable(StateFault):
    """Two handlers do not take the same kinds."""


class NothingToUndo(StateFault):
    """There is no deed to take back."""


class Busy(StateFault):
    """The desk is at work."""


class TooManyKinds(LimitFault):
    """There are more kinds than this."""

    def __init__(self, limit):
        self.limit = limit


class TooManyStates(LimitFault):
    """There are more states than this."""

    def __init__(self, limit):
        self.limit = limit


class TooManyRows(LimitFault):
    """There are more rows than this."""

    def __init__(self, limit):
        self.limit = limit
