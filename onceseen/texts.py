"""Texts of books, and lines of deeds."""

from onceseen.books import CARES, MOST_LEVELS_OF_BOOK, Book
from onceseen.checks import is_deed, is_edge
from onceseen.errors import InvalidDeed, InvalidText
from onceseen.ladders import Ladder
from onceseen.margins import Margins

# Words of a text for True and False; all other words of cares stand in it as they are.
TOLD_WORDS = {"drop": ("drop", "keep"), "alone": ("alone", "shared"), "wait": ("wait", "glance")}


def _told(name, word):
    """The word of a care as it stands in a text."""
    if name in TOLD_WORDS:
        yes, no = TOLD_WORDS[name]
        return yes if word else no
    return str(word)


def _line(words):
    """The words and numbers in a line, without its line feed."""
    return " ".join([str(word) for word in words])


def _is_number(word):
    """Whether this is a number in decimal, without a plus sign or needless zeros."""
    digits = word[1:] if word.startswith("-") else word
    return digits.isdigit() and (word == "0" or not digits.startswith("0"))


def numbers_of(words):
    """The list of the numbers that all these words are; None if one is no number."""
    return [int(word) for word in words] if all([_is_number(word) for word in words]) else None


def text_of(book):
    """The text of the book."""
    ladder, margins = book.ladder, book.margins
    sides = ladder.sides()
    lines = [_line(["side", sides[0]])]
    for before, side in zip(sides, sides[1:]):
        lines.append(_line(["factor", side // before]))
    for level in range(ladder.levels):
        lines.append(_line(["edge", *ladder.edge(level), *margins.pair(level)]))
    words = book.cares()
    lines.append(_line(["cares", *[_told(name, words[name]) for name in CARES]]))
    return "".join([f"{line}\n" for line in lines])


class Reading:
    """The lines of a text, read one after another; InvalidText tells the first that is not as it has to be."""

    def __init__(self, text):
        *lines, rest = text.split("\n")
        if rest != "":
            # A line that does not end is wrong in its place, as an empty one is.
            lines.append("")
        self._lines = lines
        self._at = 0

    def begins(self, word):
        """Whether the next line begins with this word."""
        return self._at < len(self._lines) and self._lines[self._at].split(" ")[0] == word

    def fail(self):
        """Raise InvalidText with the number of the next line."""
        raise InvalidText(self._at + 1)

    def words(self, word, many):
        """The words of the next line behind this word, if there are so many."""
        if not self.begins(word):
            self.fail()
        told = self._lines[self._at].split(" ")[1:]
        if len(told) != many:
            self.fail()
        return told

    def numbers(self, word, many):
        """The numbers of the next line behind this word, if there are so many."""
        numbers = numbers_of(self.words(word, many))
        if numbers is None:
            self.fail()
        return numbers

    def go_on(self, is_right):
        """Go on to the line behind, if this one is right."""
        if not is_right:
            self.fail()
        self._at = self._at + 1

    def at_end(self):
        """Whether no line is left."""
        return self._at == len(self._lines)


def _read_sides(reading):
    """The side of the level 0 and the factors."""
    side = reading.numbers("side", 1)[0]
    reading.go_on(side >= 1)
    factors = []
    while reading.begins("factor") and len(factors) + 1 < MOST_LEVELS_OF_BOOK:
        factor = reading.numbers("factor", 1)[0]
        reading.go_on(2 <= factor <= 4)
        factors.append(factor)
    return (side, factors)


def _read_cares(reading):
    """A dict of the words of the cares."""
    cares = {}
    for name, told in zip(list(CARES), reading.words("cares", len(CARES))):
        for word in CARES[name]:
            if _told(name, word) == told:
                cares[name] = word
    reading.go_on(len(cares) == len(CARES))
    return cares


def read_book(text):
    """The Book of this text."""
    if not isinstance(text, str):
        raise InvalidText(1)
    reading = Reading(text)
    side, factors = _read_sides(reading)
    edges, pairs = [], []
    for own_side in Ladder(side, factors).sides():
        low, high, back, ahead = reading.numbers("edge", 4)
        reading.go_on(is_edge((low, high), own_side) and is_edge((back, ahead), own_side))
        edges.append((low, high))
        pairs.append((back, ahead))
    cares = _read_cares(reading)
    if not reading.at_end():
        reading.fail()
    margins = Margins(Ladder(side, factors, edges), pairs)
    return Book(margins, **cares)


def line_of(deed):
    """The line of the deed."""
    if not is_deed(deed):
        raise InvalidDeed(deed)
    return _line(deed)


def read_deed(line):
    """The deed of this line."""
    if not isinstance(line, str):
        raise InvalidText(1)
    word, *rest = line.split(" ")
    numbers = numbers_of(rest)
    if numbers is None or not is_deed((word, *numbers)):
        raise InvalidText(1)
    return (word, *numbers)
