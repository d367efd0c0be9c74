"""Contents: sets of pairs of a cell and a version, such as a look shows."""

from onceseen.checks import check_cell, check_cell_list, check_cells, is_list, is_pair
from onceseen.errors import InvalidPairs


class Content:
    """A set of pairs (cell, version), perhaps several with one cell; it never changes."""

    def __init__(self, pairs=()):
        if not is_list(pairs):
            raise InvalidPairs(None)
        for position, pair in enumerate(pairs):
            if not is_pair(pair):
                raise InvalidPairs(position)
        # The keys are the pairs in their sorted sequence, so that every list read off them is sorted, too.
        self._pairs = {pair: True for pair in sorted(set([(cell, version) for cell, version in pairs]))}

    @classmethod
    def at(cls, history, moment, cells):
        """The Content of the versions that these cells have at the moment."""
        past = history.until(moment)
        check_cell_list(cells)
        return cls([(cell, past.version(cell)) for cell in cells])

    def pairs(self):
        """The sorted list of the pairs."""
        return list(self._pairs)

    def cells(self):
        """The sorted list of the cells, each once."""
        return sorted(set([cell for cell, _ in self._pairs]))

    def versions(self, cell):
        """The sorted list of the versions in the pairs with this cell."""
        check_cell(cell)
        return [version for own, version in self._pairs if own == cell]

    def only(self, *cells):
        """The Content of the pairs with these cells."""
        check_cells(cells)
        wanted = set(cells)
        return Content([pair for pair in self._pairs if pair[0] in wanted])

    def __contains__(self, x):
        # Any value may be asked for, also one that is no key of a dict, or has True for 1.
        return is_pair(x) and x in self._pairs

    def __len__(self):
        return len(self._pairs)

    def __bool__(self):
        return bool(self._pairs)

    def __and__(self, other):
        return Content([pair for pair in self._pairs if pair in other._pairs])

    def __or__(self, other):
        return Content([*self._pairs, *other._pairs])

    def __sub__(self, other):
        return Content([pair for pair in self._pairs if pair not in other._pairs])

    def __le__(self, other):
        if not isinstance(other, Content):
            return NotImplemented
        return all([pair in other._pairs for pair in self._pairs])

    def __eq__(self, other):
        return isinstance(other, Content) and self._pairs == other._pairs

    def __repr__(self):
        return f"Content({self.pairs()!r})"
