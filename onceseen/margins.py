"""Margins: how far from its cells an edit marks tiles, and whether that is far enough."""

from onceseen.checks import check_level, check_stretch, check_tile, is_count_couple, is_list
from onceseen.errors import InvalidMargins, OtherLadder


def _check_couples(couples, many):
    """Raise InvalidMargins unless this is a list of so many tuples of two COUNTS."""
    if not is_list(couples) or len(couples) != many:
        raise InvalidMargins(None)
    for position, couple in enumerate(couples):
        if not is_count_couple(couple):
            raise InvalidMargins(position)


class Margins:
    """For each level of a ladder a tuple (back, ahead); it never changes."""

    def __init__(self, ladder, pairs=None):
        self._ladder = ladder
        if pairs is None:
            edges = [ladder.edge(level) for level in range(ladder.levels)]
            self._pairs = tuple([(high, low) for low, high in edges])
        else:
            _check_couples(pairs, ladder.levels)
            self._pairs = tuple(pairs)

    @classmethod
    def by_steps(cls, ladder, base, steps):
        """The Margins that mark as the base does at the level 0, and by the steps at each further level."""
        if not is_count_couple(base):
            raise InvalidMargins(None)
        _check_couples(steps, ladder.levels - 1)
        pairs = [base]
        for side, (down, up) in zip(ladder.sides(), steps):
            back, ahead = pairs[-1]
            # Going so many tiles of this side further is going so many sides further ahead of rounding.
            pairs.append((back + down * side, ahead + up * side))
        return cls(ladder, pairs)

    @property
    def ladder(self):
        """The Ladder whose tiles are marked."""
        return self._ladder

    def pair(self, level):
        """The tuple (back, ahead) of the level."""
        check_level(level, self._ladder.levels)
        return self._pairs[level]

    def pairs(self):
        """The list of the tuples (back, ahead) of all levels."""
        return list(self._pairs)

    def marked(self, level, first, last):
        """The first and the last tile that an edit of this stretch marks at the level."""
        side = self._ladder.side(level)
        check_stretch(first, last)
        back, ahead = self._pairs[level]
        return ((first - back) // side, (last + ahead) // side)

    def marks(self, level, tile, first, last):
        """Whether an edit of this stretch marks the tile."""
        check_level(level, self._ladder.levels)
        check_tile(tile)
        begin, end = self.marked(level, first, last)
        return begin <= tile <= end

    def _excess(self, level):
        """By how much back is greater than the high edge of the level, and ahead than the low edge."""
        low, high = self._ladder.edge(level)
        back, ahead = self._pairs[level]
        return (back - high, ahead - low)

    def is_enough(self):
        """Whether no cell is missed at any tile."""
        return all([excess >= 0 for level in range(self._ladder.levels) for excess in self._excess(level)])

    def missed(self, level):
        """The least cell from 0 on that is missed at this level, with the least tile; None if there is none."""
        behind, before = self._excess(level)
        low, _ = self._ladder.edge(level)
        back, _ = self._pairs[level]
        # Of the tile 0, the cells from back on are missed at the tile -1, those of the low edge at the tile 1.
        cells = [back] if behind < 0 else []
        if before < 0:
            cells.append(self._ladder.side(level) - low)
        if cells == []:
            return None
        cell = min([int(begin) for begin in cells])
        held, _ = self._ladder.holders(level, cell)
        first, last = self.marked(level, cell, cell)
        return (cell, held) if held < first else (cell, last + 1)

    def spare(self, level):
        """How many pairs of a cell and a tile that it marks in vain there are over as many cells as the side."""
        return sum([max(0, excess) for excess in self._excess(level)])

    def lacking(self, level):
        """How many pairs of a cell and a tile at which it is missed there are over as many cells as the side."""
        return sum([max(0, -excess) for excess in self._excess(level)])

    def _beside(self, other):
        """For each level the tuples (back, ahead) of both, if they have the same ladder."""
        if self._ladder != other._ladder:
            raise OtherLadder(self._ladder, other._ladder)
        return [(pair, other._pairs[level]) for level, pair in enumerate(self._pairs)]

    def __or__(self, other):
        rows = self._beside(other)
        return Margins(self._ladder, [(max(int(a), c), max(int(b), d)) for (a, b), (c, d) in rows])

    def __and__(self, other):
        rows = self._beside(other)
        return Margins(self._ladder, [(min(int(a), c), min(int(b), d)) for (a, b), (c, d) in rows])

    def __le__(self, other):
        if not isinstance(other, Margins):
            return NotImplemented
        return all([a <= c and b <= d for (a, b), (c, d) in self._beside(other)])

    def parting(self, other):
        """A tuple (level, tile, cell) where an edit of the cell marks the tile by just one of both; None if none."""
        for level, (mine, yours) in enumerate(self._beside(other)):
            back, ahead = mine
            other_back, other_ahead = yours
            # The lesser number just reaches the cell 0, or -1, so that only the greater one marks the tile beyond.
            if back != other_back:
                return (level, -1, min(int(back), other_back))
            if ahead != other_ahead:
                return (level, 0, -1 - min(int(ahead), other_ahead))
        return None

    def __mul__(self, other):
        ladder = self._ladder * other
        return Margins(ladder, [(back * other, ahead * other) for back, ahead in self._pairs])

    def __rmul__(self, other):
        return self * other

    def turned(self):
        """The Margins of the turned ladder, with back and ahead exchanged."""
        return Margins(self._ladder.turned(), [(ahead, back) for back, ahead in self._pairs])

    def __eq__(self, other):
        return isinstance(other, Margins) and self._ladder == other._ladder and self._pairs == other._pairs

    def __repr__(self):
        return f"Margins({self._ladder!r}, {list(self._pairs)!r})"
