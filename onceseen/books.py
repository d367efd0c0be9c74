"""Books: margins of a ladder, and the cares with which its tiles are drawn anew and looked at."""

from onceseen.errors import InvalidCare, TooMany

MOST_LEVELS_OF_BOOK = 3

# The words of each care; those of the order rise in strictness.
CARES = {
    "source": ("finer", "drawing"),
    "order": ("any", "finest", "settled"),
    "unmark": ("begin", "end"),
    "drop": (True, False),
    "hands": (1, 2),
    "alone": (True, False),
    "wait": (True, False),
}


def _check_sizes(margins):
    """Raise TooMany if there are too many levels, or if a margin of one is greater than its side."""
    if margins.ladder.levels > MOST_LEVELS_OF_BOOK:
        raise TooMany("levels", MOST_LEVELS_OF_BOOK)
    for side, (back, ahead) in zip(margins.ladder.sides(), margins.pairs()):
        if back > side or ahead > side:
            raise TooMany("margin", side)


def _check_care(name, value):
    """Raise InvalidCare unless this is a word of the care."""
    # Python takes True for 1, so that a word is one only if it is of the same kind, too.
    if not any([type(value) is type(word) and value == word for word in CARES[name]]):
        raise InvalidCare(name, value)


class Book:
    """Margins, and a word for each care; it never changes."""

    def __init__(self, margins, *, source="finer", order="settled", unmark="begin", drop=False, hands=1, alone=True,
                 wait=True):
        _check_sizes(margins)
        self._margins = margins
        self._cares = {"source": source, "order": order, "unmark": unmark, "drop": drop, "hands": hands,
                       "alone": alone, "wait": wait}
        for name, value in self._cares.items():
            _check_care(name, value)

    @property
    def margins(self):
        """The Margins."""
        return self._margins

    @property
    def ladder(self):
        """The Ladder of the margins."""
        return self._margins.ladder

    @property
    def source(self):
        """Where tiles of levels above 0 are drawn from."""
        return self._cares["source"]

    @property
    def order(self):
        """Which marked tiles may be begun."""
        return self._cares["order"]

    @property
    def unmark(self):
        """When the mark of a tile is taken away."""
        return self._cares["unmark"]

    @property
    def drop(self):
        """Whether a drawing is thrown away if an edit has marked its tile behind its begin."""
        return self._cares["drop"]

    @property
    def hands(self):
        """How many drawings can be under way."""
        return self._cares["hands"]

    @property
    def alone(self):
        """Whether no two drawings of one tile can be under way."""
        return self._cares["alone"]

    @property
    def wait(self):
        """Whether a look is let only if none of its tiles is marked or under way."""
        return self._cares["wait"]

    def cares(self):
        """A dict with the word of each care."""
        return {name: self._cares[name] for name in sorted([str(care) for care in CARES])}

    def with_care(self, name, value):
        """The Book with another word for one care."""
        if not isinstance(name, str) or name not in CARES:
            raise InvalidCare(name, value)
        cares = {**self._cares, name: value}
        return Book(self._margins, **cares)

    def __le__(self, other):
        if not isinstance(other, Book):
            return NotImplemented
        mine, yours = self._cares, other._cares
        if self._margins != other._margins:
            return False
        if any([mine[name] != yours[name] for name in ("source", "unmark", "drop")]):
            return False
        if CARES["order"].index(self.order) < CARES["order"].index(other.order) or self.hands > other.hands:
            return False
        return all([mine[name] or not yours[name] for name in ("alone", "wait")])

    def __eq__(self, other):
        return isinstance(other, Book) and self._margins == other._margins and self._cares == other._cares

    def __repr__(self):
        cares = "".join([f", {name}={value!r}" for name, value in self._cares.items()])
        return f"Book({self._margins!r}{cares})"
