"""Claims about strips and books, whether they are true, and the papers that show it."""

from onceseen.badruns import bad_run, is_bad_run
from onceseen.certificates import is_certificate, never
from onceseen.checks import check_level, check_look, check_wish, is_couple, is_integer, is_list, is_stretch
from onceseen.contents import Content
from onceseen.errors import InvalidClaim, InvalidText, LimitError, MissingError, StripError, Untrue
from onceseen.history import History
from onceseen.moments import bar_of, is_bar, moments_of
from onceseen.places import check_ends, check_width, first_of_kinds, wrong_of_kinds
from onceseen.systems import System
from onceseen.texts import line_of, read_book, read_deed

# The keys of each claim, beside that of its word.
KEYS = {
    "moments": ("edits", "pairs", "moments"),
    "no moment": ("edits", "pairs"),
    "enough": ("book",),
    "missed": ("book", "level"),
    "never": ("book", "look", "cells", "edits", "wish"),
    "ever": ("book", "look", "wish"),
    "keeps": ("book", "level", "width", "wish"),
    "breaks": ("book", "level", "width", "wish"),
}


def _has_keys(value):
    """Whether any value is a dict with just the keys of a claim."""
    if not isinstance(value, dict) or "claim" not in value:
        return False
    word = value["claim"]
    if not isinstance(word, str) or word not in KEYS:
        return False
    return len(value) == len(KEYS[word]) + 1 and all([key in value for key in KEYS[word]])


def _strip_of(claim):
    """The History and the Content that the claim tells."""
    stretches = claim["edits"]
    if not is_list(stretches):
        raise InvalidClaim(claim)
    return (History(*stretches), Content(claim["pairs"]))


class Moments:
    """The claim that a content has just these moments."""

    def __init__(self, claim):
        past, content = _strip_of(claim)
        # This looks at the versions, too.
        self._told = moments_of(past, content)
        self._claimed = claim["moments"]
        if not is_stretch(self._claimed) or self._claimed[0] == self._claimed[1]:
            raise InvalidClaim(claim)

    def is_so(self):
        """Whether the claim is true."""
        return self._told == self._claimed

    def is_shown_by(self, value):
        """Whether any value is a paper for the claim."""
        return value is None and self.is_so()

    def proof(self):
        """A paper for the claim, if it is true."""
        return None


class NoMoment:
    """The claim that a content is of no moment."""

    def __init__(self, claim):
        self._past, self._content = _strip_of(claim)
        self._told = moments_of(self._past, self._content)

    def is_so(self):
        """Whether the claim is true."""
        return self._told is None

    def is_shown_by(self, value):
        """Whether any value is a paper for the claim."""
        return is_bar(self._past, self._content, value)

    def proof(self):
        """A paper for the claim, if it is true."""
        return bar_of(self._past, self._content)


class Enough:
    """The claim that the margins of a book are enough."""

    def __init__(self, claim):
        self._margins = read_book(claim["book"]).margins

    def is_so(self):
        """Whether the claim is true."""
        return self._margins.is_enough()

    def is_shown_by(self, value):
        """Whether any value is a paper for the claim."""
        return value is None and self.is_so()

    def proof(self):
        """A paper for the claim, if it is true."""
        return None


class Missed:
    """The claim that the margins of a book miss a cell at a tile of the level."""

    def __init__(self, claim):
        self._margins = read_book(claim["book"]).margins
        self._level = claim["level"]
        check_level(self._level, self._margins.ladder.levels)

    def is_so(self):
        """Whether the claim is true."""
        return self._margins.missed(self._level) is not None

    def is_shown_by(self, value):
        """Whether any value is a paper for the claim."""
        if not is_couple(value) or not all([is_integer(part) for part in value]):
            return False
        cell, tile = value
        held = self._margins.ladder.holds(self._level, tile, cell)
        return held and not self._margins.marks(self._level, tile, cell, cell)

    def proof(self):
        """A paper for the claim, if it is true."""
        return self._margins.missed(self._level)


class Never:
    """The claim that a watched system never goes wrong."""

    def __init__(self, claim):
        cells = claim["cells"]
        if not is_couple(cells):
            raise InvalidClaim(claim)
        x, z = cells
        self._system = System(read_book(claim["book"]), claim["look"], x, z, edits=claim["edits"])
        self._wish = claim["wish"]
        check_wish(self._wish, self._system.has_all_wishes())

    def is_so(self):
        """Whether the claim is true."""
        return never(self._system, self._wish)

    def is_shown_by(self, value):
        """Whether any value is a paper for the claim."""
        return is_certificate(self._system, self._wish, value)

    def proof(self):
        """A paper for the claim, if it is true."""
        return self._system.table()


class Ever:
    """The claim that there is a bad run of a book for a look."""

    def __init__(self, book, wish, look):
        check_ends(book, look)
        self._book = book
        self._wish = wish
        self._look = look
        self._wrong = None

    def faults(self):
        """The systems for the look, first ones of their kinds, whose tables have a state that goes wrong."""
        if self._wrong is None:
            self._wrong = [system for _, system in wrong_of_kinds(self._book, self._wish, self._look)]
        return self._wrong

    def is_so(self):
        """Whether the claim is true."""
        return self.faults() != []

    def is_shown_by(self, value):
        """Whether any value is a paper for the claim."""
        deeds = _deeds_of(value)
        return deeds is not None and is_bad_run(self._book, self._look, self._wish, deeds)

    def proof(self):
        """A paper for the claim, if it is true."""
        return [line_of(deed) for deed in bad_run(self.faults()[0], self._wish)]


class Keeps(Ever):
    """The claim that there is no bad run of a book for any look like this one."""

    def is_so(self):
        """Whether the claim is true."""
        return self.faults() == []

    def is_shown_by(self, value):
        """Whether any value is a paper for the claim."""
        if not isinstance(value, dict):
            return False
        rows = first_of_kinds(self._book, self._wish, self._look)
        # Python takes True for 1, so that a key might be found that is not the same.
        plain = all([isinstance(key, tuple) and all([is_integer(part) for part in key]) for key in value])
        if not plain or len(value) != len(rows):
            return False
        return all([key in value and is_certificate(system, self._wish, value[key]) for key, system in rows])

    def proof(self):
        """A paper for the claim, if it is true."""
        return {key: system.table() for key, system in first_of_kinds(self._book, self._wish, self._look)}


def _deeds_of(value):
    """The list of the deeds whose lines any value lists; None if it is no list of such lines."""
    if not is_list(value):
        return None
    try:
        return [read_deed(line) for line in value]
    except InvalidText:
        return None


def _ever(claim):
    """What the claim tells of runs for its look."""
    book, look, wish = read_book(claim["book"]), claim["look"], claim["wish"]
    check_look(look, book.ladder.levels)
    check_wish(wish, look[1] == look[2])
    return Ever(book, wish, look)


def _everywhere(claim):
    """What the claim tells of runs for all looks at so many tiles of its level."""
    book, level, width, wish = read_book(claim["book"]), claim["level"], claim["width"], claim["wish"]
    check_width(book, level, width)
    check_wish(wish, width == 1)
    look = (level, 0, width - 1)
    return Keeps(book, wish, look) if claim["claim"] == "keeps" else Ever(book, wish, look)


def _read(claim):
    """What a dict with the keys of a claim tells."""
    word = claim["claim"]
    if word == "moments":
        return Moments(claim)
    if word == "no moment":
        return NoMoment(claim)
    if word == "enough":
        return Enough(claim)
    if word == "missed":
        return Missed(claim)
    if word == "never":
        return Never(claim)
    return _ever(claim) if word == "ever" else _everywhere(claim)


def _checked(claim):
    """What the claim tells; InvalidClaim is raised for any value that is no claim."""
    if not _has_keys(claim):
        raise InvalidClaim(claim)
    try:
        return _read(claim)
    except (StripError, MissingError, LimitError):
        raise InvalidClaim(claim) from None


def is_paper(claim, value):
    """Whether any value is a paper for the claim."""
    return _checked(claim).is_shown_by(value)


def is_true(claim):
    """Whether the claim is true."""
    return _checked(claim).is_so()


def paper_for(claim):
    """A paper for the claim."""
    told = _checked(claim)
    if not told.is_so():
        raise Untrue()
    return told.proof()
