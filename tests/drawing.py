"""Books, looks and systems that the tests draw."""

from onceseen.books import Book
from onceseen.ladders import Ladder
from onceseen.margins import Margins
from onceseen.systems import System
from tests.test_books import ALL_CARES


def drawn_margins(draw, whole=True):
    """Small margins of a small ladder; with whole sides as edges and margins, too, if these are wanted."""
    factors = [draw.choice((2, 2, 3, 4)) for _ in range(draw.choice((0, 1, 1, 2)))]
    sides = Ladder(draw.choice((1, 2, 3)), factors).sides()
    some = (lambda side: draw.choice((0, 0, 1, side - 1, side))) if whole else (lambda side: draw.choice((0, 0, 0, 1)))
    ladder = Ladder(sides[0], factors, [(some(side), some(side)) for side in sides])
    if draw.random() < 0.5:
        return Margins(ladder)
    return Margins(ladder, [(some(side), some(side)) for side in sides])


def drawn_book(draw, whole=True, **cares):
    """A book of drawn margins, with drawn cares but for those that are told."""
    return Book(drawn_margins(draw, whole), **{**draw.choice(ALL_CARES), **cares})


def drawn_look(draw, book, level=None):
    """A look near the cell 0."""
    if level is None:
        level = draw.randrange(book.ladder.levels)
    first = draw.randrange(-2, 3)
    return (level, first, first + (draw.randrange(2) if level < 2 else 0))


def drawn_cell(draw, book, look):
    """A cell that the look holds; its ends are likelier."""
    level, first, last = look
    low, high = book.ladder.held(level, first)[0], book.ladder.held(level, last)[1]
    return draw.choice((low, high, draw.randint(low, high), draw.randint(low, high)))


def drawn_system(draw, book=None):
    """A System of the book, or of a drawn one."""
    if book is None:
        book = drawn_book(draw)
    look = drawn_look(draw, book)
    x = drawn_cell(draw, book, look)
    z = x if draw.random() < 0.3 else drawn_cell(draw, book, look)
    return System(book, look, x, z, edits=draw.choice((1, 2)))


def wishes_of(system):
    """The wishes that the system has, by the words of the document."""
    single = system.edits == 1 and system.x == system.z and system.look[1] == system.look[2]
    return ["whole", "fresh", "forward"] if single else ["whole"]
