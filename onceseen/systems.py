"""Watched systems: one or two cells and edits, and the tiles that matter for what a look shows of them."""

from onceseen.books import CARES
from onceseen.bundles import bundles_by_kind, span_of
from onceseen.checks import check_cell, check_edits, check_held, check_look, check_wish, is_count
from onceseen.errors import InvalidCount, InvalidState
from onceseen.states import States


def _watched(book, look, x, z):
    """The sorted tuples (level, tile) of the watched tiles."""
    level, first, last = look
    ladder = book.ladder
    tiles = [(level, tile) for tile in range(first, last + 1)
             if book.wait or ladder.holds(level, tile, x) or ladder.holds(level, tile, z)]
    if book.source == "finer":
        tiles.extend([(lower, ladder.owner(lower, cell)) for lower in range(level) for cell in (x, z)])
    return sorted(set(tiles))


def _is_watched_for(ladder, look, level, tile, cell):
    """Whether the tile is watched for the cell: those of the look for what they hold, others for what they own."""
    if level == look[0]:
        return ladder.holds(level, tile, cell)
    return ladder.owner(level, cell) == tile


class System:
    """A book, a look, two cells and a number of watched edits; it never changes."""

    def __init__(self, book, look, x, z, *, edits):
        check_look(look, book.ladder.levels)
        check_cell(x)
        check_cell(z)
        check_edits(edits)
        check_held(book.ladder, look, (x, z))
        self._book = book
        self._look = look
        self._x = x
        self._z = z
        self._edits = edits
        self._watched = tuple(_watched(book, look, x, z))
        self._flags = tuple([tuple([_is_watched_for(book.ladder, look, level, tile, cell) for cell in (x, z)])
                             for level, tile in self._watched])
        spans = [span_of(book.margins, level, tile) for level, tile in self._watched]
        touched = [(), (x, z)] if edits == 1 else [(), (x,), (z,)]
        self._bundles = bundles_by_kind(spans, (x, z), touched)
        self._states = States(self.kind())

    @property
    def book(self):
        """The Book."""
        return self._book

    @property
    def look(self):
        """The tuple (level, first, last)."""
        return self._look

    @property
    def x(self):
        """The cell that the first watched edit touches."""
        return self._x

    @property
    def z(self):
        """The cell that the last watched edit touches."""
        return self._z

    @property
    def edits(self):
        """How many watched edits there are."""
        return self._edits

    @property
    def watched(self):
        """The tuple of the watched tiles (level, tile)."""
        return self._watched

    @property
    def flags(self):
        """A tuple (whether it is watched for x, for z) for each watched tile."""
        return self._flags

    @property
    def states(self):
        """What leads from state to state, told by numbers."""
        return self._states

    def has_all_wishes(self):
        """Whether each wish goes with the system: where a single edit, cell and tile are watched."""
        _, first, last = self._look
        return self._edits == 1 and self._x == self._z and first == last

    def shortest(self, kind):
        """A dict from each bundle of the kind, sorted, to a shortest stretch of an edit with it."""
        return dict(self._bundles[kind]) if kind < len(self._bundles) else {}

    def bundles(self, kind):
        """The sorted list of the bundles of the kind."""
        if not is_count(kind) or kind > 2:
            raise InvalidCount(kind)
        return list(self.shortest(kind))

    def kind(self):
        """What the systems that are like this one have in common: their table hangs on nothing else."""
        cares = self._book.cares()
        look_level = self._look[0]
        tiles = [(level, level == look_level, *flags) for (level, _), flags in zip(self._watched, self._flags)]
        bundles = [tuple(self.bundles(kind)) for kind in range(3)]
        return (tuple([cares[name] for name in CARES]), self._edits, tuple(tiles), tuple(bundles))

    def start(self):
        """The start."""
        return self._states.numbering.state_of(0)

    def _code(self, state):
        """The number of the state; InvalidState is raised for any value that is none."""
        code = self._states.numbering.code_of(state)
        if code is None:
            raise InvalidState(state)
        return code

    def _listed(self, codes):
        """The sorted list of the states with these numbers."""
        return [self._states.numbering.state_of(code) for code in sorted(set(codes))]

    def nexts(self, state):
        """The sorted list of the states to which one deed leads."""
        return self._listed(self._states.nexts(self._code(state)))

    def goes_wrong(self, state, wish):
        """Whether the state goes wrong for the wish."""
        code = self._code(state)
        check_wish(wish, self.has_all_wishes())
        return self._states.is_wrong(code, wish)

    def table(self):
        """The sorted list of all states to which deeds lead from the start."""
        return self._listed(list(self._states.reached()))

    def wrong(self, wish):
        """The sorted list of the states of the table that go wrong for the wish."""
        return self._listed([code for code in self._states.reached() if self._states.is_wrong(code, wish)])

    def is_closed(self, states):
        """Whether these are states, the start among them, and no deed leads from one of them to another state."""
        codes = [self._states.numbering.code_of(state) for state in states]
        if None in codes:
            return False
        known = set(codes)
        return 0 in known and all([after in known for code in codes for after in self._states.nexts(code)])

    def __eq__(self, other):
        return (isinstance(other, System) and self._book == other._book and self._look == other._look
                and self._x == other._x and self._z == other._z and self._edits == other._edits)

    def __repr__(self):
        return f"System({self._book!r}, {self._look!r}, {self._x}, {self._z}, edits={self._edits})"
