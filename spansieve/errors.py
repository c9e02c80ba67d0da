"""The errors of the package, each under one of two base classes."""


class WrongValue(ValueError):
    """Something was handed over that is not of the kind that is asked for."""


class InvalidText(WrongValue):
    """A string is not the text of what it should be."""

    def __init__(self, given):
        self.given = given


class InvalidNumber(WrongValue):
    """A value is no integer, or none that is allowed here."""

    def __init__(self, given):
        self.given = given


class InvalidRows(WrongValue):
    """A value is not a row of names with their ticks."""

    def __init__(self, given):
        self.given = given


class InvalidName(WrongValue):
    """A value is not a name, a row of names or a word."""

    def __init__(self, given):
        self.given = given


class InvalidTicks(WrongValue):
    """A value is not a rising row of ticks of a line."""

    def __init__(self, given):
        self.given = given


class InvalidWish(WrongValue):
    """A value is not a wish."""

    def __init__(self, given):
        self.given = given


class NotASieve(WrongValue):
    """A value is not a sieve."""

    def __init__(self, given):
        self.given = given


class NotAPlan(WrongValue):
    """A value is not a plan."""

    def __init__(self, given):
        self.given = given


class WrongMoment(LookupError):
    """Something was asked for that is not there, or not to be had now."""


class UnknownName(WrongMoment):
    """There is nothing under this name."""

    def __init__(self, given):
        self.given = given


class TooMany(WrongMoment):
    """A sieve is too great for its machine to be worked with."""

    def __init__(self, limit):
        self.limit = limit


class Ended(WrongMoment):
    """The line is over."""


class InUse(WrongMoment):
    """The wish with this index is about what should be taken away."""

    def __init__(self, index):
        self.index = index


class NothingToUndo(WrongMoment):
    """No change stands that could be taken back."""


class NotKept(WrongMoment):
    """The wish with this index would not hold; what shows it comes along."""

    def __init__(self, index, shown):
        self.index = index
        self.shown = shown
