"""Margins: what edits mark, whether that is enough, and what is missed or marked in vain."""

import unittest
from itertools import product

from onceseen.contents import Content
from onceseen.errors import (InvalidCount, InvalidLevel, InvalidMargins, InvalidStretch, InvalidTile, OtherLadder,
                             StateError)
from onceseen.ladders import Ladder
from onceseen.margins import Margins
from tests.checking import (FAR, NO_COUNT_COUPLES, NO_ENDS, NO_INTEGERS, NO_LISTS, NO_POSITIVES, Case, no_levels,
                            small_ladders, small_margins)

LADDER = Ladder(4, [2], [(0, 0), (1, 0)])
LEAST = Margins(LADDER)
TIGHT = Margins(LADDER, [(0, 0), (0, 0)])
TALL = Ladder(3, [2, 3, 4], [(0, 1), (6, 0), (2, 18), (5, 72)])
SMALL = small_margins()


def plain_marked(margins, level, first, last):
    """The tiles by the words: those that own a cell from first - back to last + ahead."""
    side = margins.ladder.side(level)
    back, ahead = margins.pair(level)
    return sorted({cell // side for cell in range(first - back, last + ahead + 1)})


def plain_holders(ladder, level, cell):
    return [tile for tile in range(cell // ladder.side(level) - 2, cell // ladder.side(level) + 3)
            if ladder.holds(level, tile, cell)]


def plain_missed(margins, level):
    """All (cell, tile) over as many cells as the side, from 0 on, by the words."""
    return [(cell, tile) for cell in range(margins.ladder.side(level))
            for tile in plain_holders(margins.ladder, level, cell)
            if tile not in plain_marked(margins, level, cell, cell)]


def plain_in_vain(margins, level, begin):
    """All (cell, tile) over as many cells as the side, from this one on, by the words."""
    return [(cell, tile) for cell in range(begin, begin + margins.ladder.side(level))
            for tile in plain_marked(margins, level, cell, cell)
            if tile not in plain_holders(margins.ladder, level, cell)]


class Making(Case):

    def test_the_least_ones_that_are_enough(self):
        self.same(LEAST.pairs(), [(0, 0), (0, 1)])
        self.same(Margins(TALL).pairs(), [(1, 0), (0, 6), (18, 2), (72, 5)])
        self.same(Margins(TALL, None).pairs(), Margins(TALL).pairs())
        for ladder in small_ladders():
            least = Margins(ladder)
            self.same(least.is_enough(), True)
            for level, at in product(range(ladder.levels), (0, 1)):
                pairs = [list(pair) for pair in least.pairs()]
                if pairs[level][at] > 0:
                    pairs[level][at] -= 1
                    self.same(Margins(ladder, [tuple(pair) for pair in pairs]).is_enough(), False)

    def test_given_ones(self):
        margins = Margins(LADDER, [(7, 0), (FAR, 3)])
        self.same([margins.pair(0), margins.pair(1), margins.pairs()], [(7, 0), (FAR, 3), [(7, 0), (FAR, 3)]])
        self.assertEqual(Margins(LADDER, ((7, 0), (FAR, 3))), margins)
        self.assertEqual(Margins(pairs=[(7, 0), (FAR, 3)], ladder=LADDER), margins)
        self.assertEqual(margins.ladder, LADDER)

    def test_no_list(self):
        for value in NO_LISTS:
            if value is not None:
                self.fails(InvalidMargins(None), Margins, LADDER, value)

    def test_not_as_many_as_levels(self):
        for value in ([], [(0, 0)], [(0, 0)] * 3, (), [None], ["x"] * 3):
            self.fails(InvalidMargins(None), Margins, LADDER, value)

    def test_no_tuples_of_two_counts(self):
        for value in NO_COUNT_COUPLES:
            self.fails(InvalidMargins(0), Margins, LADDER, [value, (0, 0)])
            self.fails(InvalidMargins(0), Margins, LADDER, (value, None))
            self.fails(InvalidMargins(1), Margins, LADDER, [(0, 0), value])

    def test_what_was_passed_is_copied_and_stays(self):
        passed = [(0, 0), (0, 1)]
        margins = Margins(LADDER, passed)
        self.same(passed, [(0, 0), (0, 1)])
        passed[0] = (9, 9)
        margins.pairs().append((1, 1))
        self.assertEqual(margins, LEAST)

    def test_no_level_of_a_pair(self):
        self.fails_always(InvalidLevel, LEAST.pair, no_levels(2))


class BySteps(Case):

    def plain_steps(self, ladder, base, steps, first, last):
        """The marked tiles, level by level, by the words."""
        back, ahead = base
        side = ladder.side(0)
        rows = [sorted({cell // side for cell in range(first - back, last + ahead + 1)})]
        for level, (down, up) in enumerate(steps, start=1):
            factor = ladder.side(level) // ladder.side(level - 1)
            rows.append(sorted({tile // factor for t in rows[-1] for tile in range(t - down, t + up + 1)}))
        return rows

    def test_the_same_tiles_by_the_words(self):
        numbers = [(0, 0), (1, 0), (0, 1), (2, 5)]
        for ladder in (Ladder(1), Ladder(3), Ladder(2, [3]), Ladder(1, [2]), Ladder(3, [4]), Ladder(2, [2, 3])):
            for base, *steps in product(numbers, repeat=ladder.levels):
                margins = Margins.by_steps(ladder, base, steps)
                self.assertEqual(margins.ladder, ladder)
                for first in range(-7, 7):
                    for last in (first, first + 1, first + 5):
                        told = [plain_marked(margins, level, first, last) for level in range(ladder.levels)]
                        self.assertEqual(told, self.plain_steps(ladder, base, steps, first, last))

    def test_four_levels_and_far_ones(self):
        self.same(Margins.by_steps(TALL, (1, 2), [(1, 0), (0, 2), (3, 1)]).pairs(),
                  [(1, 2), (4, 2), (4, 14), (58, 32)])
        great = Ladder(FAR, [2])
        self.same(Margins.by_steps(great, (FAR, 0), [(FAR, 1)]).pairs(), [(FAR, 0), (FAR + FAR * FAR, FAR)])

    def test_no_base_and_no_list_of_steps(self):
        for value in NO_COUNT_COUPLES:
            self.fails(InvalidMargins(None), Margins.by_steps, LADDER, value, [(0, 0)])
            self.fails(InvalidMargins(None), Margins.by_steps, LADDER, value, [None])
        for value in NO_LISTS + [[], [(0, 0)] * 2, ["x", "y"]]:
            self.fails(InvalidMargins(None), Margins.by_steps, LADDER, (0, 0), value)
        self.fails(InvalidMargins(None), Margins.by_steps, Ladder(4), (0, 0), [(0, 0)])

    def test_no_steps(self):
        for value in NO_COUNT_COUPLES:
            self.fails(InvalidMargins(0), Margins.by_steps, LADDER, (0, 0), [value])
            self.fails(InvalidMargins(1), Margins.by_steps, TALL, (0, 0), ((0, 0), value, None))

    def test_of_kind(self):
        steps = [(0, 1)]
        margins = Margins.by_steps(ladder=LADDER, base=(0, 0), steps=steps)
        self.same([margins.pairs(), steps], [[(0, 0), (0, 4)], [(0, 1)]])
        self.assertIs(type(margins), Margins)
        self.assertEqual(Margins.by_steps(LADDER, (0, 0), ((0, 1),)), margins)
        self.assertIsInstance(vars(Margins)["by_steps"], classmethod)


class Marking(Case):

    def test_the_printed_values(self):
        self.same([LEAST.pairs(), TIGHT.marked(1, 7, 8), TIGHT.missed(1), TIGHT.missed(0), TIGHT.lacking(1)],
                  [[(0, 0), (0, 1)], (0, 1), (7, 1), None, 1])

    def test_marked_and_marks_by_the_words(self):
        for margins in SMALL[::2]:
            for level in range(margins.ladder.levels):
                side = margins.ladder.side(level)
                for first, width in product(range(-side - 1, side + 1), (0, 1, side, 2 * side + 1)):
                    tiles = plain_marked(margins, level, first, first + width)
                    begin, end = margins.marked(level, first, first + width)
                    self.assertEqual(list(range(begin, end + 1)), tiles)
                    for tile in range(tiles[0] - 2, tiles[-1] + 3):
                        self.same(margins.marks(level, tile, first, first + width), tile in tiles)

    def test_far_edits(self):
        margins = Margins(LADDER, [(0, FAR), (1, 2)])
        self.same(margins.marked(0, -4 * FAR, 3), (-FAR, (FAR + 3) // 4))
        self.same(margins.marked(1, 8 * FAR, 8 * FAR + 5), (FAR - 1, FAR))
        self.same(margins.marked(1, 8 * FAR + 1, 8 * FAR + 6), (FAR, FAR + 1))
        self.same([margins.marks(1, FAR, 8 * FAR + 8, 8 * FAR + 8), margins.marks(1, FAR, 8 * FAR + 9, 8 * FAR + 9)],
                  [True, False])

    def test_no_level_comes_first(self):
        self.fails_always(InvalidLevel, LEAST.marked, no_levels(2), 0, 1)
        self.fails_always(InvalidLevel, LEAST.marked, no_levels(2), 1, 0)
        self.fails_always(InvalidLevel, LEAST.marks, no_levels(2), 0, 0, 1)
        self.fails_always(InvalidLevel, LEAST.marks, no_levels(2), None, 1, 0)
        for call in (LEAST.missed, LEAST.spare, LEAST.lacking):
            self.fails_always(InvalidLevel, call, no_levels(2))

    def test_no_tile(self):
        for value in NO_INTEGERS:
            self.fails(InvalidTile(value), LEAST.marks, 0, value, 0, 1)
            self.fails(InvalidTile(value), LEAST.marks, 0, value, 1, 0)

    def test_no_stretch(self):
        for first, last in NO_ENDS:
            self.fails(InvalidStretch((first, last)), LEAST.marked, 1, first, last)
            self.fails(InvalidStretch((first, last)), LEAST.marks, 1, 0, first, last)

    def test_by_name(self):
        self.same(LEAST.marked(last=8, first=7, level=1), (0, 1))
        self.same(LEAST.marks(last=8, first=7, tile=1, level=1), True)
        self.takes(LEAST.marked, "level", "first", "last")
        self.takes(LEAST.marks, "level", "tile", "first", "last")
        for name in ("pair", "missed", "spare", "lacking"):
            self.takes(getattr(LEAST, name), "level")


class Enough(Case):

    def test_missed_and_lacking_by_the_words(self):
        for margins in SMALL:
            enough = True
            for level in range(margins.ladder.levels):
                missed = plain_missed(margins, level)
                self.same(margins.missed(level), missed[0] if missed else None)
                self.same(margins.lacking(level), len(missed))
                enough = enough and not missed
            self.same(margins.is_enough(), enough)

    def test_spare_by_the_words(self):
        for margins in SMALL:
            for level in range(margins.ladder.levels):
                for begin in (0, -5, 1):
                    self.same(margins.spare(level), len(plain_in_vain(margins, level, begin)))

    def test_if_enough_each_edit_marks_all_holders_of_its_cells(self):
        for margins in SMALL[::3]:
            for level, first, width in product(range(margins.ladder.levels), (-3, 0, 2), (1, 2, 7)):
                holders = {tile for cell in range(first, first + width)
                           for tile in plain_holders(margins.ladder, level, cell)}
                if margins.is_enough():
                    self.assertLessEqual(holders, set(plain_marked(margins, level, first, first + width - 1)))

    def test_one_less_on_each_side_of_a_far_one(self):
        ladder = Ladder(FAR, [2], [(FAR, 0), (5, 2 * FAR)])
        self.same(Margins(ladder).is_enough(), True)
        self.same([Margins(ladder).missed(0), Margins(ladder).spare(1), Margins(ladder).lacking(1)], [None, 0, 0])
        low = Margins(ladder, [(0, FAR - 1), (2 * FAR, 5)])
        self.same([low.is_enough(), low.missed(0), low.missed(1), low.lacking(0)], [False, (0, 1), None, 1])
        high = Margins(ladder, [(0, FAR), (2 * FAR - 1, 5)])
        self.same([high.is_enough(), high.missed(0), high.missed(1), high.lacking(1)],
                  [False, None, (2 * FAR - 1, -1), 1])
        none = Margins(ladder, [(0, 0), (0, 0)])
        self.same([none.missed(0), none.missed(1), none.lacking(0), none.lacking(1), none.spare(0)],
                  [(0, 1), (0, -1), FAR, 2 * FAR + 5, 0])
        more = Margins(ladder, [(3 * FAR, FAR + 2), (2 * FAR - 3, 9)])
        self.same([more.spare(0), more.lacking(0), more.spare(1), more.lacking(1)], [3 * FAR + 2, 0, 4, 3])

    def test_more_on_one_side_does_not_mend_the_other_one(self):
        margins = Margins(Ladder(4, [], [(1, 1)]), [(9, 0)])
        self.same([margins.is_enough(), margins.missed(0), margins.spare(0), margins.lacking(0)], [False, (3, 1), 8, 1])


class Joining(Case):
    ONE = Margins(LADDER, [(3, 0), (1, 9)])
    OTHER = Margins(LADDER, [(1, 2), (1, 7)])

    def test_either_and_both(self):
        self.same((self.ONE | self.OTHER).pairs(), [(3, 2), (1, 9)])
        self.same((self.ONE & self.OTHER).pairs(), [(1, 0), (1, 7)])
        for told in (self.ONE | self.OTHER, self.ONE & self.OTHER):
            self.assertIs(type(told), Margins)
            self.assertEqual(told.ladder, LADDER)
        self.same([self.ONE.pairs(), self.OTHER.pairs()], [[(3, 0), (1, 9)], [(1, 2), (1, 7)]])

    def test_all_small_ones_by_what_they_mark(self):
        ladder = Ladder(2, [2])
        lists = [[first, second] for first in product(range(3), repeat=2) for second in ((0, 1), (1, 0))]
        edits = [(first, first + more) for first in range(-4, 4) for more in (0, 1)]
        marked = {}
        for pairs in lists:
            margins = Margins(ladder, pairs)
            marked[repr(pairs)] = [set(plain_marked(margins, level, *edit)) for level in (0, 1) for edit in edits]
        for one, other in product(lists, repeat=2):
            a, b = Margins(ladder, one), Margins(ladder, other)
            rows = list(zip(marked[repr(one)], marked[repr(other)]))
            self.same(a <= b, all(mine <= yours for mine, yours in rows))
            both = [set(plain_marked(a & b, level, *edit)) for level in (0, 1) for edit in edits]
            either = [set(plain_marked(a | b, level, *edit)) for level in (0, 1) for edit in edits]
            self.assertEqual(both, [mine & yours for mine, yours in rows])
            self.assertEqual(either, [mine | yours for mine, yours in rows])

    def test_less(self):
        self.same([TIGHT <= LEAST, LEAST <= TIGHT, LEAST <= LEAST], [True, False, True])
        self.same([self.ONE <= self.OTHER, self.OTHER <= self.ONE, self.OTHER >= self.ONE], [False, False, False])
        self.same([self.ONE & self.OTHER <= self.ONE, self.ONE <= self.ONE | self.OTHER], [True, True])

    def test_other_ladders(self):
        for ladder in (Ladder(4, [2]), Ladder(4), Ladder(5, [2], [(0, 0), (1, 0)]), LADDER * 2):
            other = Margins(ladder)
            error = OtherLadder(LADDER, ladder)
            self.fails(error, lambda: LEAST | other)
            self.fails(error, lambda: LEAST & other)
            self.fails(error, lambda: LEAST <= other)
            self.fails(error, LEAST.parting, other)
        with self.assertRaises(StateError):
            LEAST.parting(Margins(Ladder(1)))

    def test_an_equal_ladder_is_no_other_one(self):
        self.same(Margins(Ladder(4, (2,), ((0, 0), (1, 0)))) <= LEAST, True)

    def test_parting(self):
        for margins in SMALL[::7]:
            for other in SMALL[::3]:
                if margins.ladder == other.ladder:
                    self.parts(margins, other)
        self.parts(self.ONE, self.OTHER)
        far = [Margins(LADDER, [(0, 0), pair]) for pair in ((FAR, 0), (FAR + 1, 0), (FAR, FAR), (FAR, FAR - 1))]
        for one, other in product(far, repeat=2):
            self.parts(one, other)

    def parts(self, one, other):
        told = one.parting(other)
        if one == other:
            self.same(told, None)
        else:
            level, tile, cell = told
            self.same([type(told), type(level), type(tile), type(cell)], [tuple, int, int, int])
            marks = [margins.marks(level, tile, cell, cell) for margins in (one, other)]
            self.assertEqual(sorted(marks), [False, True])

    def test_parting_by_name(self):
        self.same(LEAST.parting(other=LEAST), None)
        self.takes(LEAST.parting, "other")


class Others(Case):

    def test_times(self):
        self.assertEqual(LEAST * 3, Margins(LADDER * 3, [(0, 0), (0, 3)]))
        self.assertEqual(FAR * self.margins(), Margins(LADDER * FAR, [(3 * FAR, 0), (FAR, 9 * FAR)]))
        self.assertEqual([1 * LEAST, LEAST * 1], [LEAST, LEAST])

    @staticmethod
    def margins():
        return Margins(LADDER, [(3, 0), (1, 9)])

    def test_times_no_number(self):
        for value in NO_POSITIVES:
            self.fails(InvalidCount(value), lambda: LEAST * value)
            self.fails(InvalidCount(value), lambda: value * LEAST)
        self.fails(InvalidCount(LEAST), lambda: LEAST * LEAST)

    def test_turned(self):
        self.assertEqual(self.margins().turned(), Margins(LADDER.turned(), [(0, 3), (9, 1)]))
        for margins in SMALL:
            self.assertEqual(margins.turned().turned(), margins)
            self.same(margins.turned().is_enough(), margins.is_enough())
            begin, end = margins.marked(0, 2, 5)
            self.same(margins.turned().marked(0, -6, -3), (-1 - end, -1 - begin))

    def test_the_margins_themselves_stay(self):
        margins = self.margins()
        for told in (margins * 2, 2 * margins, margins.turned()):
            self.assertIs(type(told), Margins)
        self.assertEqual(margins, self.margins())


class Comparing(Case):

    def test_equal(self):
        self.assertTrue(LEAST == Margins(LADDER, [(0, 0), (0, 1)]))
        self.assertFalse(LEAST != Margins(LADDER))

    def test_unequal(self):
        for other in (TIGHT, Margins(LADDER, [(0, 0), (1, 0)]), Margins(Ladder(4, [2]), [(0, 0), (0, 1)])):
            self.assertTrue(LEAST != other)
            self.assertFalse(LEAST == other)

    def test_values_of_another_kind(self):
        for other in (LADDER, None, True, 1, [(0, 0), (0, 1)], Content(), Margins, repr(LEAST)):
            self.assertFalse(LEAST == other)
            self.assertTrue(LEAST != other)

    def test_repr(self):
        self.assertEqual(repr(LEAST), "Margins(Ladder(4, [2], [(0, 0), (1, 0)]), [(0, 0), (0, 1)])")
        self.assertEqual(repr(Margins(Ladder(1))), "Margins(Ladder(1, [], [(0, 0)]), [(0, 0)])")
        for margins in SMALL[::5]:
            self.assertEqual(eval(repr(margins)), margins)


class Interface(Case):

    def test_all_that_is_listed_stands_in_the_class_itself(self):
        self.stands_in(Margins, "onceseen.margins", [
            "__init__", "by_steps", "pair", "pairs", "marked", "marks", "is_enough", "missed", "spare", "lacking",
            "__or__", "__and__", "__le__", "parting", "__mul__", "__rmul__", "turned", "__eq__", "__repr__",
        ], ["ladder"])
        self.takes(Margins, "ladder", "pairs")
        self.takes(Margins.by_steps, "ladder", "base", "steps")

    def test_the_ladder_is_not_assigned(self):
        with self.assertRaises(AttributeError):
            LEAST.ladder = LADDER


if __name__ == "__main__":
    unittest.main()
