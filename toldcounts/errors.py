"""The errors of the package: three base classes, and each other class directly under one of them.

The document puts each class under its base class and under no other one, so each makes its attribute itself.
"""


class WrongValue(ValueError):
    """A value that is not what it must be."""


class InvalidText(WrongValue):
    def __init__(self, given):
        self.given = given


class InvalidName(WrongValue):
    def __init__(self, given):
        self.given = given


class InvalidNumber(WrongValue):
    def __init__(self, given):
        self.given = given


class InvalidIndex(WrongValue):
    def __init__(self, given):
        self.given = given


class InvalidStretch(WrongValue):
    def __init__(self, given):
        self.given = given


class InvalidCount(WrongValue):
    def __init__(self, given):
        self.given = given


class InvalidFilling(WrongValue):
    def __init__(self, given):
        self.given = given


class InvalidCell(WrongValue):
    def __init__(self, given):
        self.given = given


class InvalidTold(WrongValue):
    def __init__(self, given):
        self.given = given


class InvalidPeople(WrongValue):
    def __init__(self, given):
        self.given = given


class InvalidPlaces(WrongValue):
    def __init__(self, given):
        self.given = given


class InvalidScale(WrongValue):
    def __init__(self, given):
        self.given = given


class InvalidScores(WrongValue):
    def __init__(self, given):
        self.given = given


class InvalidFact(WrongValue):
    def __init__(self, given):
        self.given = given


class InvalidFace(WrongValue):
    def __init__(self, given):
        self.given = given


class InvalidSpot(WrongValue):
    def __init__(self, given):
        self.given = given


class InvalidBox(WrongValue):
    def __init__(self, given):
        self.given = given


class InvalidShare(WrongValue):
    def __init__(self, given):
        self.given = given


class InvalidPairs(WrongValue):
    def __init__(self, given):
        self.given = given


class InvalidOrder(WrongValue):
    def __init__(self, given):
        self.given = given


class InvalidProfile(WrongValue):
    def __init__(self, given):
        self.given = given


class InvalidRule(WrongValue):
    def __init__(self, given):
        self.given = given


class InvalidPlace(WrongValue):
    def __init__(self, given):
        self.given = given


class InvalidWish(WrongValue):
    def __init__(self, given):
        self.given = given


class NotAreas(WrongValue):
    def __init__(self, given):
        self.given = given


class NotACross(WrongValue):
    def __init__(self, given):
        self.given = given


class NotAPage(WrongValue):
    def __init__(self, given):
        self.given = given


class NotAReport(WrongValue):
    def __init__(self, given):
        self.given = given


class NotFaces(WrongValue):
    def __init__(self, given):
        self.given = given


class NotAPoll(WrongValue):
    def __init__(self, given):
        self.given = given


class NotVotes(WrongValue):
    def __init__(self, given):
        self.given = given


class NotAThing(WrongValue):
    def __init__(self, given):
        self.given = given


class NotADesk(WrongValue):
    def __init__(self, given):
        self.given = given


class InvalidLines(WrongValue):
    def __init__(self, index):
        self.index = index


class InvalidNames(WrongValue):
    def __init__(self, index):
        self.index = index


class InvalidCells(WrongValue):
    def __init__(self, index):
        self.index = index


class InvalidFacts(WrongValue):
    def __init__(self, index):
        self.index = index


class InvalidShares(WrongValue):
    def __init__(self, index):
        self.index = index


class InvalidFirsts(WrongValue):
    def __init__(self, index):
        self.index = index


class InvalidPolls(WrongValue):
    def __init__(self, index):
        self.index = index


class InvalidLog(WrongValue):
    def __init__(self, index):
        self.index = index


class WrongName(LookupError):
    """A name that cannot be used so."""


class UnknownName(WrongName):
    def __init__(self, given):
        self.given = given


class InUse(WrongName):
    def __init__(self, index):
        self.index = index


class NotPossible(ArithmeticError):
    """Something that cannot be done or told."""


class TooMany(NotPossible):
    def __init__(self, given):
        self.given = given


class Broken(NotPossible):
    def __init__(self, index):
        self.index = index


class NoData(NotPossible):
    """No data fit."""


class NothingToUndo(NotPossible):
    """Nothing is left that could be taken back."""
