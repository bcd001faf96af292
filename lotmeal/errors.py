"""The refusals of the program, one class for each."""

# No words here hold a number: Python refuses to write very long ones, and a refusal must not fail by that.


class LotError(ValueError):
    """Any refusal."""


class NoNumber(LotError):
    """A number that cannot stand where it is handed in."""


class NoText(LotError):
    """What is no text, or one that is written otherwise than told."""


class TooGreat(LotError):
    """More than is dealt with."""


class NoAsker(LotError):
    """No asker at all, or none with this number."""


class NoThing(LotError):
    """An asker's order holds a number that is no thing's."""

    def __init__(self, asker):
        LotError.__init__(self, "an order holds a number that is no thing's")
        self.asker = asker


class Twice(LotError):
    """An asker's order holds a thing twice."""

    def __init__(self, asker):
        LotError.__init__(self, "an order holds a thing twice")
        self.asker = asker


class NoShares(LotError):
    """Lists of fractions that are no shares."""


class NoTurns(LotError):
    """A list that is no list of turns."""


class NoTicket(LotError):
    """A number that is none of a ticket."""

    def __init__(self, many):
        LotError.__init__(self, "there is no ticket with this number")
        self.many = many


class NoName(LotError):
    """A name that nobody, or no thing, has."""


class Double(LotError):
    """Two things, or two askers, with one name."""


class NoRow(LotError):
    """A row that the desk does not know."""


class NoTable(LotError):
    """The desk has no table yet."""
