"""What passes for a number, a stretch, a pair or a deed, and the errors of parameters that many calls share."""

from onceseen.errors import (InvalidCell, InvalidCount, InvalidEdit, InvalidEdits, InvalidLevel, InvalidLook,
                             InvalidMoment, InvalidStretch, InvalidTile, InvalidWish, NotHeld)

# How many numbers stand behind the word of a deed.
DEED_NUMBERS = {"edit": 2, "begin": 2, "end": 1, "look": 3}

# The wishes behind the first one are for a single cell and a single tile.
WISHES = ("whole", "fresh", "forward")


def is_integer(value):
    """Whether any value is an INTEGER."""
    # For Python a bool is an int, so that True would pass for 1.
    return isinstance(value, int) and not isinstance(value, bool)


def is_count(value):
    """Whether any value is a COUNT."""
    return is_integer(value) and value >= 0


def is_list(value):
    """Whether any value passes for a list; a tuple does wherever a list is asked for."""
    return isinstance(value, (list, tuple))


def is_couple(value):
    """Whether any value is a tuple of two; a list does not pass for it."""
    return isinstance(value, tuple) and len(value) == 2


def is_stretch(value):
    """Whether any value is a stretch: a tuple (first, last) of INTEGERS, first at most last."""
    if not is_couple(value):
        return False
    first, last = value
    return is_integer(first) and is_integer(last) and first <= last


def is_pair(value):
    """Whether any value is a tuple (cell, version) of an INTEGER and a COUNT."""
    if not is_couple(value):
        return False
    cell, version = value
    return is_integer(cell) and is_count(version)


def is_count_couple(value):
    """Whether any value is a tuple of two COUNTS."""
    if not is_couple(value):
        return False
    one, other = value
    return is_count(one) and is_count(other)


def is_edge(value, side):
    """Whether any value is an edge of a level with this side."""
    if not is_count_couple(value):
        return False
    low, high = value
    return low <= side and high <= side


def is_level(value, levels):
    """Whether any value is the number of a level, where there are so many."""
    return is_count(value) and value < levels


def is_look(value, levels):
    """Whether any value is a look at tiles of a ladder of so many levels."""
    if not isinstance(value, tuple) or len(value) != 3 or not all([is_integer(part) for part in value]):
        return False
    level, first, last = value
    return is_level(level, levels) and (last == first or level <= 1 and last == first + 1)


def is_deed(value):
    """Whether any value is a deed by its form: a tuple of its word and of as many INTEGERS as it has."""
    if not isinstance(value, tuple) or len(value) == 0:
        return False
    word, *numbers = value
    if not isinstance(word, str) or word not in DEED_NUMBERS:
        return False
    return len(numbers) == DEED_NUMBERS[word] and all([is_integer(number) for number in numbers])


def check_cell(cell):
    """Raise InvalidCell unless this is a cell."""
    if not is_integer(cell):
        raise InvalidCell(cell)


def check_cells(cells):
    """Raise InvalidCell with the first of these that is no cell."""
    for cell in cells:
        check_cell(cell)


def check_cell_list(cells):
    """Raise InvalidCell with what was passed unless it is a list, else with the first element that is no cell."""
    if not is_list(cells):
        raise InvalidCell(cells)
    check_cells(cells)


def check_moment(moment, last):
    """Raise InvalidMoment unless this is a moment of a history with this last one."""
    if not is_count(moment) or moment > last:
        raise InvalidMoment(moment)


def check_edit(number, last):
    """Raise InvalidEdit unless this is the number of an edit of a history with this last moment."""
    if not is_integer(number) or not 1 <= number <= last:
        raise InvalidEdit(number)


def check_stretch(first, last):
    """Raise InvalidStretch unless these are the first and the last cell of a stretch."""
    if not is_stretch((first, last)):
        raise InvalidStretch((first, last))


def check_level(level, levels):
    """Raise InvalidLevel unless this is the number of a level, where there are so many."""
    if not is_level(level, levels):
        raise InvalidLevel(level)


def check_tile(tile):
    """Raise InvalidTile unless this is a tile."""
    if not is_integer(tile):
        raise InvalidTile(tile)


def check_look(look, levels):
    """Raise InvalidLook unless this is a look at tiles of a ladder of so many levels."""
    if not is_look(look, levels):
        raise InvalidLook(look)


def check_positive(value):
    """Raise InvalidCount unless this is an INTEGER greater than 0, such as a width."""
    if not is_integer(value) or value < 1:
        raise InvalidCount(value)


def check_held(ladder, look, cells):
    """Raise NotHeld with the first of these cells that no tile of the look holds."""
    level, first, last = look
    low, high = ladder.held(level, first)[0], ladder.held(level, last)[1]
    for cell in cells:
        if not low <= cell <= high:
            raise NotHeld(level, first, cell)


def check_edits(edits):
    """Raise InvalidEdits unless this is a number of watched edits."""
    if not is_integer(edits) or not 1 <= edits <= 2:
        raise InvalidEdits(edits)


def check_wish(wish, single):
    """Raise InvalidWish unless this is a wish, or, where there is no single cell and tile, the first one."""
    if not isinstance(wish, str) or wish not in WISHES or not (single or wish == WISHES[0]):
        raise InvalidWish(wish)
