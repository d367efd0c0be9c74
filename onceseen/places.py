"""Places: the few cells that stand for all cells, however far away, and what a book keeps at all of them."""

from onceseen.checks import check_cell, check_level, check_wish, is_integer
from onceseen.errors import InvalidCount, TooMany
from onceseen.systems import System

MOST_ENDS = 16


def _corners(book, level):
    """For each level up to this one the side, and where, from the first cell of a tile on, something ends or begins."""
    ladder, margins = book.ladder, book.margins
    rows = []
    for lower in range(level + 1):
        low, high = ladder.edge(lower)
        back, ahead = margins.pair(lower)
        rows.append((ladder.side(lower), (0, -low, high, back, -ahead)))
    return rows


def _ends_from(book, level, first, last):
    """The sorted ends for the level from the first to the last cell."""
    found = []
    for side, corners in _corners(book, level):
        for corner in corners:
            found.extend(list(range(first + (corner - first) % side, last + 1, side)))
    return sorted(set(found))


def ends_held(book, look):
    """The sorted ends for the level of the look that its tiles hold."""
    level, first, last = look
    return _ends_from(book, level, book.ladder.held(level, first)[0], book.ladder.held(level, last)[1])


def check_ends(book, look):
    """Raise TooMany if the look holds too many ends."""
    if len(ends_held(book, look)) > MOST_ENDS:
        raise TooMany("ends", MOST_ENDS)


def check_width(book, level, width):
    """Raise InvalidLevel or InvalidCount unless there are looks of so many tiles at this level."""
    check_level(level, book.ladder.levels)
    if not is_integer(width) or not 1 <= width <= (2 if level < 2 else 1):
        raise InvalidCount(width)


def _places_of(book, look):
    """The sorted tuples (x, z) of ends that the look holds."""
    cells = ends_held(book, look)
    return [(x, z) for x in cells for z in cells]


def _named(book, wish, look):
    """The tuples (x, z, edits) of the systems that tell of the wish at all cells that the look holds."""
    if wish == "whole":
        return [(x, z, edits) for x, z in _places_of(book, look) for edits in (1, 2)]
    return [(x, z, 1) for x, z in _places_of(book, look) if x == z]


def first_of_kinds(book, wish, look):
    """The first tuple (x, z, edits) and its System, of each kind of the systems that tell of the wish for the look."""
    found = {}
    for x, z, edits in _named(book, wish, look):
        system = System(book, look, x, z, edits=edits)
        found.setdefault(system.kind(), ((x, z, edits), system))
    return list(found.values())


def wrong_of_kinds(book, wish, look):
    """Those of the first of each kind whose table has a state that goes wrong; all the tables are looked at."""
    return [(key, system) for key, system in first_of_kinds(book, wish, look) if system.wrong(wish) != []]


def ends(book, level):
    """The sorted list of the ends for the level from 0 up to, not including, its side."""
    side = book.ladder.side(level)
    return _ends_from(book, level, 0, side - 1)


def place_of(book, level, cell):
    """The greatest end for the level that is not above the cell."""
    check_level(level, book.ladder.levels)
    check_cell(cell)
    distances = [(cell - corner) % side for side, corners in _corners(book, level) for corner in corners]
    return cell - min([int(distance) for distance in distances])


def places(book, level, width=1):
    """The places of the book for the level and the width, sorted, one after another."""
    check_width(book, level, width)
    for place in _places_of(book, (level, 0, width - 1)):
        yield place


def are_like(one, other):
    """Whether both Systems are of one kind."""
    return one.kind() == other.kind()


def _look_for(book, wish, level, width):
    """The look that stands for all of so many tiles at this level, if all that the book is asked for is right."""
    check_width(book, level, width)
    check_wish(wish, width == 1)
    look = (level, 0, width - 1)
    check_ends(book, look)
    return look


def keeps(book, wish, level, width=1):
    """Whether the book keeps the wish at the level, for looks at so many tiles."""
    return first_fault(book, wish, level, width) is None


def first_fault(book, wish, level, width=1):
    """The first tuple (x, z, edits) whose system has a state that goes wrong in its table; None if there is none."""
    look = _look_for(book, wish, level, width)
    wrong = [key for key, _ in wrong_of_kinds(book, wish, look)]
    return wrong[0] if wrong else None


def kinds(book, wish, level, width=1):
    """The list of the first tuples (x, z, edits) of each kind of the systems that tell of the wish there."""
    look = _look_for(book, wish, level, width)
    return [key for key, _ in first_of_kinds(book, wish, look)]
