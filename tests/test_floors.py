"""Floors: boxes of columns and rows."""

import unittest
from fractions import Fraction
from itertools import product

from onceseen.errors import InvalidBox, InvalidCell, InvalidCount, InvalidLevel, OtherLevels, StateError
from onceseen.floors import Floor
from onceseen.ladders import Ladder
from onceseen.margins import Margins
from tests.checking import FAR, NO_INTEGERS, NO_POSITIVES, NO_STRETCHES, Case, no_levels

COLUMNS = Margins(Ladder(2, [2], [(0, 0), (1, 0)]))
ROWS = Margins(Ladder(3, [3], [(1, 1), (0, 4)]), [(0, 2), (4, 0)])
FLOOR = Floor(COLUMNS, ROWS)
SMALL = [
    FLOOR,
    Floor(ROWS, COLUMNS),
    Floor(COLUMNS, COLUMNS),
    Floor(Margins(Ladder(1)), Margins(Ladder(3, [], [(2, 3)]))),
    Floor(Margins(Ladder(2), [(5, 1)]), Margins(Ladder(1), [(0, 3)])),
    Floor(Margins(Ladder(1, [2, 2], [(1, 0), (0, 1), (4, 4)])), Margins(Ladder(2, [2, 2]), [(1, 0), (0, 0), (3, 9)])),
    Floor(Margins(Ladder(1, [2, 2, 2])), Margins(Ladder(1, [2, 2, 2]), [(1, 1), (0, 0), (2, 1), (0, 8)])),
]
BOX = ((0, 1), (0, 1))

# Values that are no tuple of two stretches.
NO_BOXES = NO_INTEGERS + [
    list(BOX), BOX[:1], BOX + ((0, 1),), (0, 1, 0, 1), ((0, 1),), ([0, 1], (0, 1)), ((0, 1), [0, 1]), "ab",
    ({0: 1}, {0: 1}), (BOX, BOX), {(0, 1): (0, 1), (2, 3): (4, 5)},
] + [(value, (0, 1)) for value in NO_STRETCHES] + [((0, 1), value) for value in NO_STRETCHES]

# Values that are no tuple of two INTEGERS.
NO_CELLS = [value for value in NO_INTEGERS if value != (3, 4)] + [
    0, 7, [3, 4], (3, 4, 5), (True, 4), (3, False), (None, 4), (3, None), ("3", 4), (3, "4"), ((3,), 4), "34", {3, 4},
]


def plain_tiles(margins, level, stretch):
    """The tiles of a column or row that are marked, by the words."""
    side = margins.ladder.side(level)
    back, ahead = margins.pair(level)
    return {cell // side for cell in range(stretch[0] - back, stretch[1] + ahead + 1)}


def plain_marked(floor, level, box):
    """All tiles (column, row) near by that are marked, by trying them."""
    columns, rows = plain_tiles(floor.columns, level, box[0]), plain_tiles(floor.rows, level, box[1])
    return [(column, row) for column in range(min(columns) - 2, max(columns) + 3)
            for row in range(min(rows) - 2, max(rows) + 3) if column in columns and row in rows]


def plain_works(floor, width, height):
    """The works of all boxes of this size, with all firsts of both periods."""
    across, down = range(floor.columns.ladder.period), range(floor.rows.ladder.period)
    return [sum(len(plain_marked(floor, level, ((left, left + width - 1), (top, top + height - 1))))
                for level in range(floor.levels)) for left, top in product(across, down)]


class Making(Case):

    def test_parts(self):
        self.assertEqual([FLOOR.columns, FLOOR.rows], [COLUMNS, ROWS])
        self.same([floor.levels for floor in SMALL], [2, 2, 2, 1, 1, 3, 4])
        self.assertEqual(Floor(rows=ROWS, columns=COLUMNS), FLOOR)
        self.takes(Floor, "columns", "rows")

    def test_other_levels(self):
        one, two, four = [Margins(Ladder(3, [2] * many)) for many in (0, 1, 3)]
        self.fails(OtherLevels(1, 2), Floor, one, two)
        self.fails(OtherLevels(4, 1), Floor, four, one)
        self.fails(OtherLevels(2, 4), Floor, two, four)
        with self.assertRaises(StateError):
            Floor(one, four)


class Marked(Case):

    def test_by_trying_all_tiles_near_by(self):
        for floor in SMALL:
            for level, left, top, width, height in product(range(floor.levels), (-4, 0, 3), (-1, 2), (1, 3), (1, 4)):
                box = ((left, left + width - 1), (top, top + height - 1))
                columns, rows = floor.marked(level, box)
                told = list(product(range(columns[0], columns[1] + 1), range(rows[0], rows[1] + 1)))
                self.assertEqual(told, plain_marked(floor, level, box))

    def test_work_by_trying_all_tiles_near_by(self):
        for floor in SMALL:
            for left, top, width, height in product((-4, 0, 3), (-1, 2), (1, 3), (1, 4)):
                box = ((left, left + width - 1), (top, top + height - 1))
                told = sum(len(plain_marked(floor, level, box)) for level in range(floor.levels))
                self.same(floor.work(box), told)

    def test_boxes_of_one_cell_below_0_and_far(self):
        self.same(FLOOR.marked(1, ((-1, -1), (-9, -9))), ((-1, 0), (-2, -1)))
        self.same(FLOOR.work(((-1, -1), (-9, -9))), 1 + 2 * 2)
        self.same(FLOOR.marked(0, ((-2 * FAR, 2 * FAR + 1), (3 * FAR, 3 * FAR))), ((-FAR, FAR), (FAR, FAR)))
        self.same(FLOOR.work(((0, 4 * FAR - 1), (0, 9 * FAR - 1))), 2 * FAR * (3 * FAR + 1) + (FAR + 1) * (FAR + 1))

    def test_no_box(self):
        for value in NO_BOXES:
            self.fails(InvalidBox(value), FLOOR.marked, 0, value)
            self.fails(InvalidBox(value), FLOOR.work, value)

    def test_no_level_comes_first(self):
        self.fails_always(InvalidLevel, FLOOR.marked, no_levels(2), BOX)
        self.fails_always(InvalidLevel, FLOOR.marked, no_levels(2), None)
        self.fails_always(InvalidLevel, FLOOR.holders, no_levels(2), (0, 0))
        self.fails_always(InvalidLevel, FLOOR.holders, no_levels(2), None)

    def test_by_name(self):
        self.same(FLOOR.marked(box=BOX, level=0), ((0, 0), (0, 1)))
        self.same(FLOOR.work(box=BOX), 2 + 2)
        self.takes(FLOOR.marked, "level", "box")
        self.takes(FLOOR.work, "box")


class Holders(Case):

    def test_by_trying_all_tiles_near_by(self):
        for floor in SMALL:
            for level, column, row in product(range(floor.levels), range(-5, 6), range(-5, 6)):
                columns, rows = floor.holders(level, (column, row))
                held = [(a, b) for a in range(-9, 10) for b in range(-9, 10)
                        if floor.columns.ladder.holds(level, a, column) and floor.rows.ladder.holds(level, b, row)]
                self.assertEqual(list(product(range(columns[0], columns[1] + 1), range(rows[0], rows[1] + 1))), held)

    def test_far_cells(self):
        self.same(FLOOR.holders(1, (4 * FAR - 1, -9 * FAR)), ((FAR - 1, FAR), (-FAR - 1, -FAR)))

    def test_no_cell(self):
        for value in NO_CELLS:
            self.fails(InvalidCell(value), FLOOR.holders, 0, value)

    def test_by_name(self):
        self.same(FLOOR.holders(cell=(3, 4), level=1), ((0, 1), (0, 0)))
        self.takes(FLOOR.holders, "level", "cell")


class Extremes(Case):

    def test_by_trying_all_boxes(self):
        for floor in SMALL:
            across, down = floor.columns.ladder.period, floor.rows.ladder.period
            for width, height in product((1, 2, across - 1, across, across + 1), (1, 2, down - 1, down + 1)):
                if width > 0 and height > 0:
                    works = plain_works(floor, width, height)
                    mean = Fraction(sum(works), len(works))
                    self.same(floor.least_work(width, height), min(works))
                    self.same(floor.greatest_work(width, height), max(works))
                    self.same(floor.mean_work(width, height), (mean.numerator, mean.denominator))

    def test_great_sides_widths_and_heights(self):
        floor = Floor(Margins(Ladder(FAR, [2])), Margins(Ladder(3, [4])))
        self.same([floor.least_work(1, 1), floor.greatest_work(1, 1), floor.mean_work(1, 1)], [2, 2, (2, 1)])
        self.same([floor.least_work(2, 1), floor.greatest_work(2, 1)], [2, 4])
        self.same(floor.least_work(FAR, 12 * FAR), 4 * FAR + FAR)
        self.same(floor.greatest_work(FAR, 12 * FAR), 2 * (4 * FAR + 1) + 2 * (FAR + 1))
        mean = Fraction(FAR + 1, FAR) * 1 + Fraction(2 * FAR + 1, 2 * FAR)
        self.same(floor.mean_work(2, 1), (mean.numerator, mean.denominator))

    def test_columns_and_rows_are_chosen_together(self):
        floor = Floor(Margins(Ladder(2, [2])), Margins(Ladder(2, [2])))
        self.same([floor.least_work(2, 2), floor.greatest_work(2, 2)], [2, 8])
        self.same(floor.mean_work(2, 2), (Fraction(9, 4) + Fraction(25, 16)).as_integer_ratio())

    def test_no_width_and_no_height(self):
        for value in NO_POSITIVES:
            for call in (FLOOR.least_work, FLOOR.greatest_work, FLOOR.mean_work):
                self.fails(InvalidCount(value), call, value, 1)
                self.fails(InvalidCount(value), call, value, "later")
                self.fails(InvalidCount(value), call, 1, value)

    def test_by_name(self):
        for name in ("least_work", "greatest_work", "mean_work"):
            call = getattr(FLOOR, name)
            self.same(call(height=2, width=5), call(5, 2))
            self.takes(call, "width", "height")


class Comparing(Case):

    def test_turned(self):
        self.assertEqual(FLOOR.turned(), Floor(ROWS, COLUMNS))
        self.assertEqual(FLOOR.turned().turned(), FLOOR)
        self.same(FLOOR.turned().work(((0, 5), (1, 1))), FLOOR.work(((1, 1), (0, 5))))
        self.assertEqual(FLOOR, Floor(COLUMNS, ROWS))

    def test_equal_and_unequal(self):
        self.assertTrue(Floor(COLUMNS, ROWS) == FLOOR)
        self.assertFalse(Floor(COLUMNS, ROWS) != FLOOR)
        for other in (Floor(ROWS, COLUMNS), Floor(COLUMNS, COLUMNS), Floor(ROWS, ROWS), COLUMNS, (COLUMNS, ROWS), None,
                      True, Floor, repr(FLOOR)):
            self.assertFalse(FLOOR == other)
            self.assertTrue(FLOOR != other)

    def test_repr(self):
        self.assertEqual(repr(FLOOR), f"Floor({COLUMNS!r}, {ROWS!r})")
        self.assertEqual(repr(Floor(Margins(Ladder(1)), Margins(Ladder(2)))),
                         "Floor(Margins(Ladder(1, [], [(0, 0)]), [(0, 0)]), Margins(Ladder(2, [], [(0, 0)]), [(0, 0)]))")
        for floor in SMALL:
            self.assertEqual(eval(repr(floor)), floor)


class Interface(Case):

    def test_all_that_is_listed_stands_in_the_class_itself(self):
        self.stands_in(Floor, "onceseen.floors", [
            "__init__", "marked", "work", "holders", "least_work", "greatest_work", "mean_work", "turned", "__eq__",
            "__repr__",
        ], ["columns", "rows", "levels"])

    def test_properties_are_not_assigned(self):
        for name in ("columns", "rows", "levels"):
            with self.assertRaises(AttributeError):
                setattr(FLOOR, name, 1)


if __name__ == "__main__":
    unittest.main()
