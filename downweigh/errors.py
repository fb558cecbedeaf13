"""The refusals of the whole program.

None is under another one but WeighError, so that none is caught as another one.
No refusal's words hold what was handed in: that may be anything, also what can't be written.
"""


class WeighError(ValueError):
    """What was handed in is not of the form that is asked for."""


class NoNumber(WeighError):
    """No number, or none of those that are taken here."""

    def __init__(self, thing):
        super().__init__("this is no number that is taken here")
        self.thing = thing


class NoText(WeighError):
    """No text that is written so, from a row of it on."""

    def __init__(self, row):
        super().__init__("nothing is written so")
        self.row = row


class NoProgram(WeighError):
    """No program, by one of its parts and a thing in it."""

    def __init__(self, part, number):
        super().__init__("this is no program")
        self.part = part
        self.number = number


class NoOrder(WeighError):
    """No order of all places or numbers."""


class Unlike(WeighError):
    """Two programs that can't stand side by side."""


class NoStart(WeighError):
    """No start of a program."""


class NoOffer(WeighError):
    """No lists of wishes for all places."""


class NoRanks(WeighError):
    """No ranks that are let by."""


class NoRound(WeighError):
    """No round of a program."""


class NoRing(WeighError):
    """No ring of rows."""


class NoCode(WeighError):
    """No code over these names."""


class NoNumbers(WeighError):
    """No list of a fraction for each number."""


class NoWishes(WeighError):
    """No list of wishes for a row."""


class NoLine(WeighError):
    """No row that the desk answers."""


class NoRow(IndexError):
    """No row, or no number of one."""

    def __init__(self, row):
        super().__init__("there is no such row")
        self.row = row


class NoPlace(IndexError):
    """No place, or no number of one."""

    def __init__(self, place):
        super().__init__("there is no such place")
        self.place = place


class NoStep(LookupError):
    """A row that does not lead there from here."""

    def __init__(self, row):
        super().__init__("the row does not lead there")
        self.row = row


class NoName(KeyError):
    """A name by which nothing is kept."""

    def __init__(self, name):
        super().__init__("nothing is kept by this name")
        self.name = name


class ByNought(ZeroDivisionError):
    """A quotient by nought."""


class TooMany(OverflowError):
    """More than there may be."""


class Full(OverflowError):
    """No row more can be put."""


class Bare(RuntimeError):
    """Nothing is left to be undone."""


class NoDeed(RuntimeError):
    """Nothing that was said at the desk is left to be undone."""
