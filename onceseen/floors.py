"""Floors: margins for columns and for rows, and how many tiles an edit of a box marks."""

from onceseen.checks import check_level, check_positive, is_couple, is_integer, is_stretch
from onceseen.errors import InvalidBox, InvalidCell, OtherLevels
from onceseen.work import count_rows, count_sums, counts_at, lowest_terms


def _check_box(box):
    """Raise InvalidBox unless this is a tuple of two stretches."""
    if not is_couple(box) or not all([is_stretch(stretch) for stretch in box]):
        raise InvalidBox(box)


def _products(columns, rows):
    """The sum of the products of what stands at the same level."""
    return sum([many * others for many, others in zip(columns, rows)])


def _counts(margins, stretch):
    """How many tiles an edit of the stretch marks, level by level."""
    first, last = stretch
    return counts_at(margins, first, last - first + 1)


class Floor:
    """Margins for the columns and for the rows; it never changes."""

    def __init__(self, columns, rows):
        if columns.ladder.levels != rows.ladder.levels:
            raise OtherLevels(columns.ladder.levels, rows.ladder.levels)
        self._columns = columns
        self._rows = rows

    @property
    def columns(self):
        """The Margins of the columns."""
        return self._columns

    @property
    def rows(self):
        """The Margins of the rows."""
        return self._rows

    @property
    def levels(self):
        """How many levels there are."""
        return self._columns.ladder.levels

    def marked(self, level, box):
        """The first and the last column and the first and the last row of the tiles that an edit of the box marks."""
        check_level(level, self.levels)
        _check_box(box)
        (left, right), (top, bottom) = box
        return (self._columns.marked(level, left, right), self._rows.marked(level, top, bottom))

    def work(self, box):
        """How many tiles an edit of the box marks, at all levels together."""
        _check_box(box)
        across, down = box
        return _products(_counts(self._columns, across), _counts(self._rows, down))

    def holders(self, level, cell):
        """The first and the last column and the first and the last row of the tiles that hold the cell."""
        check_level(level, self.levels)
        if not is_couple(cell) or not all([is_integer(number) for number in cell]):
            raise InvalidCell(cell)
        column, row = cell
        return (self._columns.ladder.holders(level, column), self._rows.ladder.holders(level, row))

    def _works(self, width, height):
        """All works that boxes of so many columns and rows have."""
        check_positive(width)
        check_positive(height)
        downs = count_rows(self._rows, height)
        return [_products(across, down) for across in count_rows(self._columns, width) for down in downs]

    def least_work(self, width, height):
        """The least work over all boxes of so many columns and rows."""
        return min([int(many) for many in self._works(width, height)])

    def greatest_work(self, width, height):
        """The greatest work over all boxes of so many columns and rows."""
        return max([int(many) for many in self._works(width, height)])

    def mean_work(self, width, height):
        """The average work over all boxes of so many columns and rows, as a tuple (top, bottom) in lowest terms."""
        check_positive(width)
        check_positive(height)
        top = _products(count_sums(self._columns, width), count_sums(self._rows, height))
        return lowest_terms(top, self._columns.ladder.period * self._rows.ladder.period)

    def turned(self):
        """The Floor with columns and rows exchanged."""
        return Floor(self._rows, self._columns)

    def __eq__(self, other):
        return isinstance(other, Floor) and self._columns == other._columns and self._rows == other._rows

    def __repr__(self):
        return f"Floor({self._columns!r}, {self._rows!r})"
