"""Cares: which ones keep a watched system safe, and which are more than it needs."""

from onceseen.books import CARES
from onceseen.checks import check_cell, check_held, check_look, check_wish
from onceseen.errors import NotSafe
from onceseen.systems import System

# The freest words of those cares that can be stricter, in the sequence of the cares.
FREEST_WORDS = {"order": "any", "hands": 2, "alone": False, "wait": False}


def _check_all(book, wish, look, x, z):
    """Raise the error of the first of these that is wrong, those of several of them behind those of single ones."""
    check_look(look, book.ladder.levels)
    check_cell(x)
    check_cell(z)
    check_wish(wish, True)
    check_held(book.ladder, look, (x, z))
    check_wish(wish, x == z and look[1] == look[2])


def _is_safe(book, wish, look, x, z):
    """Whether no state of the tables goes wrong; all of them are looked at, so that none is too great."""
    systems = [System(book, look, x, z, edits=edits) for edits in ((1, 2) if wish == "whole" else (1,))]
    return not any([system.wrong(wish) != [] for system in systems])


def is_safe(book, wish, look, x, z):
    """Whether the book is safe for the wish, the look and the cells."""
    _check_all(book, wish, look, x, z)
    return _is_safe(book, wish, look, x, z)


def freest(book, wish, look, x, z):
    """The list of the freest Books with the margins, source, unmark and drop of the book."""
    _check_all(book, wish, look, x, z)
    books = [book]
    for name, words in (("order", ("settled", "finest", "any")), ("hands", (1, 2)), ("alone", (True, False)),
                        ("wait", (True, False))):
        books = [other.with_care(name, word) for other in books for word in words]
    safe = [other for other in books if _is_safe(other, wish, look, x, z)]
    return [one for one in safe if not any([one <= other and one != other for other in safe])]


def needless(book, wish, look, x, z):
    """The sorted list of the names of the cares that a safe book does not need."""
    _check_all(book, wish, look, x, z)
    if not _is_safe(book, wish, look, x, z):
        raise NotSafe()
    words = book.cares()
    strict = [name for name in FREEST_WORDS if words[name] != FREEST_WORDS[name]]
    freer = [name for name in strict if _is_safe(book.with_care(name, FREEST_WORDS[name]), wish, look, x, z)]
    return sorted(set(freer))


def mends(book, wish, look, x, z):
    """The list of the Books that differ from the book in the word of just one care and are safe."""
    _check_all(book, wish, look, x, z)
    words = book.cares()
    others = [book.with_care(name, word) for name in CARES for word in CARES[name] if word != words[name]]
    return [other for other in others if _is_safe(other, wish, look, x, z)]
