"""The errors of the package; each one keeps what it was made with."""


class PlateError(ValueError):
    """What all errors of the package derive from.

    Its __init__ takes nothing, so that an error without fields is made with none.
    """

    def __init__(self):
        ValueError.__init__(self)


class BadTable(PlateError):
    """A part of a table is wrong: "cells", or "kinds", at a number or at -1 for the whole."""

    def __init__(self, part, at):
        self.part = part
        self.at = at


class NoJournal(PlateError):
    """The thing is no journal of the table."""


class NoDeed(PlateError):
    """The thing is no number of a deed of the journal."""


class NoPlates(PlateError):
    """The thing is no plates of the journal."""


class NotSafe(PlateError):
    """The plates are not safe: some present is not derived."""


class NoWorld(PlateError):
    """The things are no functions of the journal, or no beginning."""


class NoCell(PlateError):
    """The thing is no cell of the table."""


class NoKnot(PlateError):
    """The thing is no knot of the table."""


class TooMany(PlateError):
    """More than so many are not let here."""

    def __init__(self, most):
        self.most = most


class NoNumber(PlateError):
    """The thing is no number that is let here."""


class NoRun(PlateError):
    """The thing is no run of the table."""


class NotPlain(PlateError):
    """The table is not plain."""


class NoLot(PlateError):
    """The thing is no lot of cells of the table."""


class NoOrder(PlateError):
    """The thing is no order of all cells."""


class NoWeaving(PlateError):
    """The thing is no weaving of the order."""


class BadHand(PlateError):
    """A hand is wrong behind so many deeds, in the way that the word names."""

    def __init__(self, deeds, word):
        self.deeds = deeds
        self.word = word


class Stopped(PlateError):
    """The power is gone: no more writes are let."""


class NoBegins(PlateError):
    """The thing is no tuple of a value for each cell."""


class NoPress(PlateError):
    """The disk and the table are not such that a press can be made of them."""


class NoKind(PlateError):
    """The thing is no kind, or no number of one, that can stand here."""


class Harms(PlateError):
    """Laying the cell would harm these cells."""

    def __init__(self, cells):
        self.cells = cells


class Stuck(PlateError):
    """The present cannot be laid out."""


class NoSweep(PlateError):
    """No sweep goes on, or it is not as far as this needs."""


class BadText(PlateError):
    """The text has not the form of what is read, first in this line."""

    def __init__(self, line):
        self.line = line


class Known(PlateError):
    """The kind is there already."""


class Full(PlateError):
    """There is no room for one more."""


class Last(PlateError):
    """The only kind of a table cannot go."""


class InUse(PlateError):
    """Some kind writes or reads the cell."""


class NothingDone(PlateError):
    """There is nothing to take back, or to do again."""


class NoMark(PlateError):
    """The thing is no name of a mark, or none stands under it."""

    def __init__(self, name):
        self.name = name


class BadChange(PlateError):
    """The thing with this number is no change, or cannot be done."""

    def __init__(self, index):
        self.index = index


class NoPrices(PlateError):
    """The thing is no tuple of a price for each kind."""


class NoPrime(PlateError):
    """The thing is no prime that is let here."""


class NoLine(PlateError):
    """The line has none of the forms of lines."""


class NoName(PlateError):
    """Nothing of its sort is kept under this name."""

    def __init__(self, name):
        self.name = name


class NoLines(PlateError):
    """The thing is no list or tuple of strings."""
