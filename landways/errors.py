"""All errors of the package. None makes a message of its own: its attributes tell all."""


class LandError(ValueError):
    """The error above all others of the package."""


class BadLand(LandError):
    """No land can be made: the argument that is wrong, or "whole"."""

    def __init__(self, what):
        self.what = what


class BadCell(LandError):
    """What was passed as a cell is none."""

    def __init__(self, cell):
        self.cell = cell


class BadCells(LandError):
    """The argument that is no lot, or no order, of cells."""

    def __init__(self, what):
        self.what = what


class BadCustom(LandError):
    """The clause that is wrong, or that a question cannot bear."""

    def __init__(self, what):
        self.what = what


class BadClause(LandError):
    """What is wrong with a clause and its word."""

    def __init__(self, what):
        self.what = what


class BadNumber(LandError):
    """A number that is out of its range."""

    def __init__(self, number):
        self.number = number


class BadCounted(LandError):
    """The sort of deeds that is neither counted nor left out."""

    def __init__(self, what):
        self.what = what


class BadText(LandError):
    """The row of a text that is wrong, and in what."""

    def __init__(self, row, what):
        self.row = row
        self.what = what


class BadState(LandError):
    """No state can be made: what is wrong with it."""

    def __init__(self, what):
        self.what = what


class BadDeed(LandError):
    """A deed that cannot be done: what is wrong with it."""

    def __init__(self, what):
        self.what = what


class BadHistory(LandError):
    """The deed of a history that is wrong, and in what."""

    def __init__(self, index, what):
        self.index = index
        self.what = what


class NoDeed(LandError):
    """A history has not so many deeds."""

    def __init__(self, many):
        self.many = many


class BadPairs(LandError):
    """What is wrong with the new names of hands."""

    def __init__(self, what):
        self.what = what


class BadView(LandError):
    """No view can be made: what is wrong with it."""

    def __init__(self, what):
        self.what = what


class BadStep(LandError):
    """A step that cannot be made or done: what is wrong with it."""

    def __init__(self, what):
        self.what = what


class NoView(LandError):
    """A view that is not in the table."""

    def __init__(self, view):
        self.view = view


class NotCounted(LandError):
    """The first deed that is not counted."""

    def __init__(self, index):
        self.index = index


class NeedsLand(LandError):
    """The clause whose answer hangs on the land."""

    def __init__(self, clause):
        self.clause = clause


class RoadCell(LandError):
    """A road cell where none may stand."""

    def __init__(self, cell):
        self.cell = cell


class BadSort(LandError):
    """What was passed as a sort of cells is none."""

    def __init__(self, word):
        self.word = word


class BadPair(LandError):
    """What was passed as a pair is none."""

    def __init__(self, pair):
        self.pair = pair


class BadEvent(LandError):
    """The first event that is none or cannot happen."""

    def __init__(self, index, event):
        self.index = index
        self.event = event


class NotTwoCells(LandError):
    """A history of another land than the one of two cells."""


class BadJoint(LandError):
    """No joint view can be made: what is wrong with it."""

    def __init__(self, what):
        self.what = what


class NoJointStep(LandError):
    """What was passed as a joint step is none."""

    def __init__(self, pair):
        self.pair = pair


class NoJoint(LandError):
    """A joint view that is not in the table."""

    def __init__(self, joint):
        self.joint = joint


class TooWide(LandError):
    """A land with more cells than a question bears."""

    def __init__(self, what):
        self.what = what


class BadQuestion(LandError):
    """What was passed as a question is none."""

    def __init__(self, question):
        self.question = question


class BadTwin(LandError):
    """No twin view can be made: what is wrong with it."""

    def __init__(self, what):
        self.what = what


class BadMeasure(LandError):
    """What was passed as a measure is none."""

    def __init__(self, measure):
        self.measure = measure


class NoTwin(LandError):
    """A twin view that is not in the table."""

    def __init__(self, twin):
        self.twin = twin


class TooMany(LandError):
    """So many fillings are more than are let."""

    def __init__(self, many):
        self.many = many


class BadSmudge(LandError):
    """The row of lost words that is wrong, and in what."""

    def __init__(self, index, what):
        self.index = index
        self.what = what


class NoFilling(LandError):
    """No filling of the register is lawful."""


class BadFinding(LandError):
    """What is wrong with a finding, or with its place."""

    def __init__(self, what):
        self.what = what


class BadPool(LandError):
    """The thing of a pool that is wrong, and in what."""

    def __init__(self, index, what):
        self.index = index
        self.what = what


class BadChoice(LandError):
    """What is wrong with a choice."""

    def __init__(self, what):
        self.what = what


class BadWish(LandError):
    """No wish can be made: what is wrong with it."""

    def __init__(self, what):
        self.what = what


class NothingDone(LandError):
    """There is no act to take back."""


class BadMark(LandError):
    """So many acts cannot be left to stand."""

    def __init__(self, many):
        self.many = many
