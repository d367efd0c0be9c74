"""Histories: the edits of a strip in their sequence, and the versions that they give its cells."""

from onceseen.checks import check_cell, check_cells, check_edit, check_moment, is_integer, is_stretch
from onceseen.errors import InvalidStretch, InvalidStretches, WrongVersion


def _touched(stretch, cell):
    """Whether the stretch touches the cell."""
    first, last = stretch
    return first <= cell <= last


def _listed(stretches):
    """The stretches as they are written in a call."""
    return ", ".join([repr(stretch) for stretch in stretches])


class History:
    """A sequence of edits, numbered from 1 on; it never changes."""

    def __init__(self, *stretches):
        for position, stretch in enumerate(stretches):
            if not is_stretch(stretch):
                raise InvalidStretches(position)
        self._edits = tuple([(first, last) for first, last in stretches])

    @classmethod
    def of_cells(cls, *cells):
        """The History whose edits touch one of these cells each."""
        check_cells(cells)
        stretches = [(cell, cell) for cell in cells]
        return cls(*stretches)

    @property
    def moment(self):
        """The last moment."""
        return len(self._edits)

    def __len__(self):
        return len(self._edits)

    def __getitem__(self, at):
        check_edit(at, self.moment)
        return self._edits[at - 1]

    # Without this, Python would iterate by history[0], which is no edit.
    def __iter__(self):
        raise TypeError("a History is not iterated over")

    def until(self, moment):
        """The History of the edits up to this moment."""
        check_moment(moment, self.moment)
        stretches = self._edits[:moment]
        return History(*stretches)

    def __add__(self, other):
        if not is_stretch(other):
            raise InvalidStretch(other)
        return History(*self._edits, other)

    def touches(self, number, cell):
        """Whether the edit with this number touches the cell."""
        check_edit(number, self.moment)
        check_cell(cell)
        return _touched(self._edits[number - 1], cell)

    def version(self, cell, moment=None):
        """The number of the last edit up to the moment that touches the cell; 0 if there is none."""
        check_cell(cell)
        last = self.moment
        if moment is not None:
            check_moment(moment, last)
            last = moment
        for number in range(last, 0, -1):
            if _touched(self._edits[number - 1], cell):
                return number
        return 0

    def versions(self, cell):
        """The rising list of all versions that the cell has at the moments of the history."""
        check_cell(cell)
        edits = [number for number, stretch in enumerate(self._edits, start=1) if _touched(stretch, cell)]
        return [0, *edits]

    def stands(self, cell, version):
        """The moments (begin, end) at which the version of the cell stands, end not among them."""
        known = self.versions(cell)
        # A bool would be found in the list of numbers.
        if not is_integer(version) or version not in known:
            raise WrongVersion(cell, version)
        later = [number for number in known if number > version]
        end = later[0] if later else self.moment + 1
        return (version, end)

    def __eq__(self, other):
        return isinstance(other, History) and self._edits == other._edits

    def __repr__(self):
        return f"History({_listed(self._edits)})"
