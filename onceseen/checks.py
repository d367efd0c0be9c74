"""What passes for a number, a stretch or a pair, and the errors of parameters that many calls share."""

from onceseen.errors import InvalidCell, InvalidEdit, InvalidMoment


def is_integer(value):
    """Whether any value is an INTEGER."""
    # For Python a bool is an int, so that True would pass for 1.
    return isinstance(value, int) and not isinstance(value, bool)


def is_count(value):
    """Whether any value is a COUNT."""
    return is_integer(value) and value >= 0


def is_list(value):
    """Whether any value passes for a list; a tuple does wherever a list is asked for."""
    return isinstance(value, (list, tuple))


def is_couple(value):
    """Whether any value is a tuple of two; a list does not pass for it."""
    return isinstance(value, tuple) and len(value) == 2


def is_stretch(value):
    """Whether any value is a stretch: a tuple (first, last) of INTEGERS, first at most last."""
    if not is_couple(value):
        return False
    first, last = value
    return is_integer(first) and is_integer(last) and first <= last


def is_pair(value):
    """Whether any value is a tuple (cell, version) of an INTEGER and a COUNT."""
    if not is_couple(value):
        return False
    cell, version = value
    return is_integer(cell) and is_count(version)


def check_cell(cell):
    """Raise InvalidCell unless this is a cell."""
    if not is_integer(cell):
        raise InvalidCell(cell)


def check_cells(cells):
    """Raise InvalidCell with the first of these that is no cell."""
    for cell in cells:
        check_cell(cell)


def check_moment(moment, last):
    """Raise InvalidMoment unless this is a moment of a history with this last one."""
    if not is_count(moment) or moment > last:
        raise InvalidMoment(moment)


def check_edit(number, last):
    """Raise InvalidEdit unless this is the number of an edit of a history with this last moment."""
    if not is_integer(number) or not 1 <= number <= last:
        raise InvalidEdit(number)
