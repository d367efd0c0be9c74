"""Ladders: levels of tiles, and which cells their tiles own and hold."""

from onceseen.checks import (check_cell, check_level, check_positive, check_tile, is_edge, is_integer, is_level,
                             is_list)
from onceseen.errors import InvalidCount, InvalidEdge, InvalidEdges, InvalidFactors, InvalidLevel, InvalidSide, TooMany


def _check_factors(factors):
    """Raise InvalidFactors unless this is a list of factors."""
    if not is_list(factors):
        raise InvalidFactors(None)
    for position, factor in enumerate(factors):
        if not is_integer(factor) or not 2 <= factor <= 4:
            raise InvalidFactors(position)


def _check_edges(edges, sides):
    """Raise InvalidEdges unless this is a list of an edge for each level."""
    if not is_list(edges) or len(edges) != len(sides):
        raise InvalidEdges(None)
    for position, edge in enumerate(edges):
        if not is_edge(edge, sides[position]):
            raise InvalidEdges(position)


def _sides(side, factors):
    """The sides of all levels, from that of the level 0."""
    sides = [side]
    for factor in factors:
        sides.append(sides[-1] * factor)
    return sides


class Ladder:
    """Levels of tiles, each with a side and an edge; it never changes."""

    MOST_LEVELS = 4

    def __init__(self, side, factors=(), edges=None):
        if not is_integer(side) or side < 1:
            raise InvalidSide(side)
        _check_factors(factors)
        if len(factors) + 1 > Ladder.MOST_LEVELS:
            raise TooMany("levels", Ladder.MOST_LEVELS)
        self._factors = tuple(factors)
        self._all_sides = tuple(_sides(side, factors))
        if edges is None:
            self._edges = tuple([(0, 0) for _ in self._all_sides])
        else:
            _check_edges(edges, self._all_sides)
            self._edges = tuple(edges)

    @property
    def levels(self):
        """How many levels there are."""
        return len(self._all_sides)

    @property
    def period(self):
        """The side of the last level."""
        return self._all_sides[-1]

    def sides(self):
        """The list of the sides of all levels."""
        return list(self._all_sides)

    def side(self, level):
        """The side of the level."""
        check_level(level, self.levels)
        return self._all_sides[level]

    def edge(self, level):
        """The edge (low, high) of the level."""
        check_level(level, self.levels)
        return self._edges[level]

    def owned(self, level, tile):
        """The stretch of the cells that the tile owns."""
        side = self.side(level)
        check_tile(tile)
        return (tile * side, tile * side + side - 1)

    def held(self, level, tile):
        """The stretch of the cells that the tile holds."""
        first, last = self.owned(level, tile)
        low, high = self._edges[level]
        return (first - low, last + high)

    def owner(self, level, cell):
        """The tile that owns the cell."""
        side = self.side(level)
        check_cell(cell)
        return cell // side

    def holders(self, level, cell):
        """The first and the last tile that hold the cell."""
        side = self.side(level)
        check_cell(cell)
        low, high = self._edges[level]
        return ((cell - high) // side, (cell + low) // side)

    def holds(self, level, tile, cell):
        """Whether the tile holds the cell."""
        first, last = self.held(level, tile)
        check_cell(cell)
        return first <= cell <= last

    def parts(self, level, tile):
        """The first and the last tile of the level before that own a cell which the tile holds."""
        if level == 0:
            raise InvalidLevel(level)
        first, last = self.held(level, tile)
        return (self.owner(level - 1, first), self.owner(level - 1, last))

    def wholes(self, level, tile):
        """The first and the last tile of the next level of which the tile is a part."""
        if not is_level(level, self.levels - 1):
            raise InvalidLevel(level)
        first, last = self.owned(level, tile)
        return (self.holders(level + 1, first)[0], self.holders(level + 1, last)[1])

    def way(self, cell):
        """The list of the owners of the cell, level by level."""
        check_cell(cell)
        return [cell // side for side in self._all_sides]

    def __mul__(self, other):
        check_positive(other)
        edges = [(low * other, high * other) for low, high in self._edges]
        return Ladder(self._all_sides[0] * other, self._factors, edges)

    def __rmul__(self, other):
        return self * other

    def turned(self):
        """The Ladder with low and high of each edge exchanged."""
        return Ladder(self._all_sides[0], self._factors, [(high, low) for low, high in self._edges])

    def cut(self, levels):
        """The Ladder of the first so many levels."""
        if not is_integer(levels) or not 1 <= levels <= self.levels:
            raise InvalidCount(levels)
        return Ladder(self._all_sides[0], self._factors[:levels - 1], self._edges[:levels])

    def with_edge(self, level, edge):
        """The Ladder with another edge of this level."""
        if not is_edge(edge, self.side(level)):
            raise InvalidEdge(edge)
        edges = list(self._edges)
        edges[level] = edge
        return Ladder(self._all_sides[0], self._factors, edges)

    def __eq__(self, other):
        return isinstance(other, Ladder) and self._all_sides == other._all_sides and self._edges == other._edges

    def __repr__(self):
        return f"Ladder({self._all_sides[0]}, {list(self._factors)!r}, {list(self._edges)!r})"
