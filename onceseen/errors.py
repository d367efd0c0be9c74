"""All errors of the package, those of its later modules too."""


class StripError(ValueError):
    """A value that is not of the form that its place asks for."""


class InvalidCell(StripError):
    """No INTEGER, where a cell is asked for."""

    def __init__(self, value):
        self.value = value


class InvalidStretch(StripError):
    """No tuple (first, last) of INTEGERS with first at most last."""

    def __init__(self, value):
        self.value = value


class InvalidStretches(StripError):
    """The stretch at this position is none."""

    def __init__(self, position):
        self.position = position


class InvalidMoment(StripError):
    """No moment of the history."""

    def __init__(self, value):
        self.value = value


class InvalidEdit(StripError):
    """Not the number of an edit of the history."""

    def __init__(self, value):
        self.value = value


class InvalidPairs(StripError):
    """The pair at this position is none; None: there is no list of pairs."""

    def __init__(self, position):
        self.position = position


class InvalidSide(StripError):
    """No side of a level."""

    def __init__(self, value):
        self.value = value


class InvalidFactors(StripError):
    """The factor at this position is none; None: there is no list of factors."""

    def __init__(self, position):
        self.position = position


class InvalidEdges(StripError):
    """The edge at this position is none of its level; None: there is no such list."""

    def __init__(self, position):
        self.position = position


class InvalidEdge(StripError):
    """No edge of the level."""

    def __init__(self, value):
        self.value = value


class InvalidLevel(StripError):
    """Not the number of a level that can be asked for."""

    def __init__(self, value):
        self.value = value


class InvalidTile(StripError):
    """No INTEGER, where a tile is asked for."""

    def __init__(self, value):
        self.value = value


class InvalidCount(StripError):
    """Not a number from the range that is asked for."""

    def __init__(self, value):
        self.value = value


class InvalidMargins(StripError):
    """The tuple of margins at this position is none; None: there is no such list."""

    def __init__(self, position):
        self.position = position


class InvalidBox(StripError):
    """No tuple of two stretches."""

    def __init__(self, value):
        self.value = value


class InvalidCare(StripError):
    """No care has this name, or the value is none of its words."""

    def __init__(self, name, value):
        self.name = name
        self.value = value


class InvalidHand(StripError):
    """No hand that is under way."""

    def __init__(self, value):
        self.value = value


class InvalidLook(StripError):
    """No look at tiles of the ladder."""

    def __init__(self, value):
        self.value = value


class InvalidEdits(StripError):
    """Not 1 or 2, where a number of watched edits is asked for."""

    def __init__(self, value):
        self.value = value


class InvalidWish(StripError):
    """No wish, or one that does not go with the other arguments."""

    def __init__(self, value):
        self.value = value


class InvalidState(StripError):
    """No state of the system."""

    def __init__(self, value):
        self.value = value


class InvalidText(StripError):
    """The line with this number, from 1 on, is not as it has to be."""

    def __init__(self, line):
        self.line = line


class InvalidClaim(StripError):
    """No claim."""

    def __init__(self, value):
        self.value = value


class InvalidCommand(StripError):
    """No command of a desk."""

    def __init__(self, value):
        self.value = value


class InvalidDeed(StripError):
    """No deed."""

    def __init__(self, value):
        self.value = value


class MissingError(LookupError):
    """A value of the right form that is not there."""


class WrongVersion(MissingError):
    """The cell never has this version in the history."""

    def __init__(self, cell, number):
        self.cell = cell
        self.number = number


class NotHeld(MissingError):
    """The tile does not hold the cell."""

    def __init__(self, level, tile, cell):
        self.level = level
        self.tile = tile
        self.cell = cell


class StateError(RuntimeError):
    """What is asked cannot be done with these objects, or as things are now."""


class OtherLadder(StateError):
    """Two objects do not have the same ladder."""

    def __init__(self, one, other):
        self.one = one
        self.other = other


class OtherLevels(StateError):
    """Two ladders do not have as many levels."""

    def __init__(self, one, other):
        self.one = one
        self.other = other


class NotMarked(StateError):
    """The tile is not marked, so its drawing cannot be begun."""

    def __init__(self, level, tile):
        self.level = level
        self.tile = tile


class NoHand(StateError):
    """No hand is free."""


class AtWork(StateError):
    """A drawing of the tile is under way already."""

    def __init__(self, level, tile):
        self.level = level
        self.tile = tile


class OutOfOrder(StateError):
    """A mark or a drawing of this level has to be dealt with first."""

    def __init__(self, level):
        self.level = level


class MustWait(StateError):
    """The look has to wait for this tile."""

    def __init__(self, level, tile):
        self.level = level
        self.tile = tile


class NotSafe(StateError):
    """The book is not safe."""


class Untrue(StateError):
    """The claim is not true."""


class NothingToUndo(StateError):
    """No deed is left that could be taken back."""


class DeedFailed(StateError):
    """The deed at this position failed, so none of the list is done."""

    def __init__(self, position):
        self.position = position


class CommandFailed(StateError):
    """The command at this position failed, so none of the list has an effect."""

    def __init__(self, position):
        self.position = position


class LimitError(ArithmeticError):
    """A number that is beyond what the package deals with."""


class TooMany(LimitError):
    """There are more of these than the limit."""

    def __init__(self, what, limit):
        self.what = what
        self.limit = limit
