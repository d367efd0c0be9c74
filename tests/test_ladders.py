"""Ladders: sides, edges, owners, holders, parts and wholes."""

import unittest
from itertools import product

from onceseen.errors import (InvalidCell, InvalidCount, InvalidEdge, InvalidEdges, InvalidFactors, InvalidLevel,
                             InvalidSide, InvalidTile, LimitError, StripError, TooMany)
from onceseen.history import History
from onceseen.ladders import Ladder
from tests.checking import (FAR, NO_COUNT_COUPLES, NO_INTEGERS, NO_LISTS, NO_POSITIVES, Case, no_levels,
                            small_ladders)

PRINTED = Ladder(4, [2], [(0, 0), (1, 0)])
TALL = Ladder(3, [2, 3, 4], [(0, 1), (6, 0), (2, 18), (5, 72)])
GREAT = Ladder(FAR, [4, 4, 4], [(FAR, 0), (1, 2), (0, 16 * FAR), (7, 64 * FAR)])
SMALL = small_ladders()


def plain_owned(ladder, level, tile):
    side = ladder.side(level)
    return list(range(tile * side, tile * side + side))


def plain_held(ladder, level, tile):
    """The cells that the tile holds, by the words."""
    side = ladder.side(level)
    low, high = ladder.edge(level)
    return list(range(tile * side - low, tile * side + side - 1 + high + 1))


class Making(Case):

    def test_sides_rise_by_their_factors(self):
        self.same([TALL.side(level) for level in range(4)], [3, 6, 18, 72])
        self.same(TALL.sides(), [3, 6, 18, 72])
        self.same([TALL.edge(level) for level in range(4)], [(0, 1), (6, 0), (2, 18), (5, 72)])
        self.same([TALL.levels, TALL.period], [4, 72])

    def test_one_level(self):
        for ladder in (Ladder(1), Ladder(1, []), Ladder(1, ()), Ladder(1, [], None), Ladder(1, [], [(0, 0)])):
            self.same([ladder.levels, ladder.period, ladder.sides(), ladder.edge(0)], [1, 1, [1], (0, 0)])

    def test_without_edges_all_are_nothing(self):
        ladder = Ladder(5, [2, 3])
        self.same([ladder.edge(level) for level in range(3)], [(0, 0)] * 3)
        self.assertEqual(ladder, Ladder(5, [2, 3], [(0, 0)] * 3))

    def test_each_factor_and_edges_of_the_whole_side(self):
        for factor in (2, 3, 4):
            ladder = Ladder(1, [factor], [(1, 1), (factor, factor)])
            self.same([ladder.sides(), ladder.edge(1)], [[1, factor], (factor, factor)])

    def test_sides_of_thirty_digits_and_more(self):
        self.same(GREAT.sides(), [FAR, 4 * FAR, 16 * FAR, 64 * FAR])
        self.same(Ladder(10 ** 39, [4] * 3).period, 64 * 10 ** 39)

    def test_tuples_pass_for_lists(self):
        self.assertEqual(Ladder(4, (2,), ((0, 0), (1, 0))), PRINTED)

    def test_by_name(self):
        self.assertEqual(Ladder(edges=[(0, 0), (1, 0)], factors=[2], side=4), PRINTED)
        self.takes(Ladder, "side", "factors", "edges")

    def test_the_most_levels(self):
        self.same([Ladder.MOST_LEVELS, PRINTED.MOST_LEVELS], [4, 4])

    def test_no_side(self):
        self.fails_always(InvalidSide, Ladder, NO_POSITIVES)
        self.fails_always(InvalidSide, Ladder, NO_POSITIVES, [7], None)
        with self.assertRaises(StripError):
            Ladder(0)

    def test_no_list_of_factors(self):
        for value in NO_LISTS:
            self.fails(InvalidFactors(None), Ladder, 4, value)
            self.fails(InvalidFactors(None), Ladder, 4, value, "no edges")

    def test_no_factors(self):
        for value in NO_INTEGERS + [0, 1, 5, -2, FAR]:
            self.fails(InvalidFactors(0), Ladder, 4, [value])
            self.fails(InvalidFactors(2), Ladder, 4, (2, 3, value, None))
        self.fails(InvalidFactors(1), Ladder, 4, [2, True, 4])

    def test_too_many_levels(self):
        self.fails(TooMany("levels", 4), Ladder, 4, [2, 2, 2, 2])
        self.fails(TooMany("levels", 4), Ladder, 4, [2] * 9, "no edges")
        self.fails(InvalidFactors(4), Ladder, 4, [2, 2, 2, 2, 1])
        with self.assertRaises(LimitError):
            Ladder(4, [2] * 4)

    def test_no_list_of_edges(self):
        for value in NO_LISTS:
            if value is not None:
                self.fails(InvalidEdges(None), Ladder, 4, [], value)

    def test_not_as_many_edges_as_levels(self):
        for value in ([], [(0, 0)], [(0, 0)] * 3, (), ["no edge"], [None] * 3):
            self.fails(InvalidEdges(None), Ladder, 4, [2], value)
        self.fails(InvalidEdges(None), Ladder, 4, [], [(0, 0), (0, 0)])

    def test_no_edges(self):
        for value in NO_COUNT_COUPLES + [(5, 0), (0, 5), (FAR, 0), (9, 9)]:
            self.fails(InvalidEdges(0), Ladder, 4, [2], [value, (0, 0)])
            self.fails(InvalidEdges(0), Ladder, 4, [2], (value, None))
        for value in NO_COUNT_COUPLES + [(9, 0), (0, 9)]:
            self.fails(InvalidEdges(1), Ladder, 4, [2], [(4, 4), value])
        self.assertEqual(Ladder(4, [2], [(4, 4), (8, 8)]).edge(1), (8, 8))

    def test_what_was_passed_is_copied_and_stays(self):
        factors, edges = [2], [(0, 0), (1, 0)]
        ladder = Ladder(4, factors, edges)
        self.same([factors, edges], [[2], [(0, 0), (1, 0)]])
        factors.append(3)
        edges[1] = (7, 7)
        self.assertEqual(ladder, PRINTED)

    def test_returned_lists_are_new(self):
        TALL.sides().append(1)
        TALL.way(5).clear()
        self.same([TALL.sides(), TALL.way(5)], [[3, 6, 18, 72], [1, 0, 0, 0]])


class Tiles(Case):

    def test_the_printed_values(self):
        self.same([PRINTED.owner(1, -1), PRINTED.holders(1, 7), PRINTED.held(1, 1), PRINTED.parts(1, 1),
                   PRINTED.wholes(0, 1), PRINTED.way(13)], [-1, (0, 1), (7, 15), (1, 3), (0, 1), [3, 1]])

    def test_owned_and_held_by_the_words(self):
        for ladder in SMALL:
            for level, tile in product(range(ladder.levels), range(-3, 4)):
                owned, held = plain_owned(ladder, level, tile), plain_held(ladder, level, tile)
                self.same(ladder.owned(level, tile), (owned[0], owned[-1]))
                self.same(ladder.held(level, tile), (held[0], held[-1]))

    def test_each_cell_has_one_owner(self):
        for ladder in SMALL:
            for level in range(ladder.levels):
                cells = [cell for tile in range(-2, 3) for cell in plain_owned(ladder, level, tile)]
                self.assertEqual(len(cells), len(set(cells)))
                for tile in range(-2, 3):
                    for cell in plain_owned(ladder, level, tile):
                        self.same(ladder.owner(level, cell), tile)

    def test_holders_and_holds_by_the_words(self):
        for ladder in SMALL:
            for level in range(ladder.levels):
                held = {tile: plain_held(ladder, level, tile) for tile in range(-5, 6)}
                for cell in range(-2 * ladder.side(level), 2 * ladder.side(level)):
                    tiles = [tile for tile in held if cell in held[tile]]
                    first, last = ladder.holders(level, cell)
                    self.assertEqual(list(range(first, last + 1)), tiles)
                    self.assertIn(len(tiles), (1, 2, 3))
                    for tile in held:
                        self.same(ladder.holds(level, tile, cell), tile in tiles)

    def test_parts_and_wholes_by_the_words(self):
        for ladder in SMALL:
            for level in range(1, ladder.levels):
                parts = {}
                for tile in range(-4, 5):
                    owners = {ladder.owner(level - 1, cell) for cell in plain_held(ladder, level, tile)}
                    parts[tile] = sorted(owners)
                    self.same(ladder.parts(level, tile), (min(owners), max(owners)))
                    self.assertEqual(sorted(owners), list(range(min(owners), max(owners) + 1)))
                for part in range(-3, 4):
                    wholes = [tile for tile in parts if part in parts[tile]]
                    first, last = ladder.wholes(level - 1, part)
                    self.assertEqual(list(range(first, last + 1)), wholes)

    def test_way(self):
        for cell in (-73, -72, -1, 0, 2, 3, 71, 72):
            self.same(TALL.way(cell), [TALL.owner(level, cell) for level in range(4)])
        self.same(TALL.way(-1), [-1, -1, -1, -1])
        self.same(Ladder(7).way(-8), [-2])

    def test_far_tiles_and_cells(self):
        self.same(GREAT.owned(1, -FAR), (-4 * FAR * FAR, -4 * FAR * FAR + 4 * FAR - 1))
        self.same(GREAT.held(0, 0), (-FAR, FAR - 1))
        self.same(GREAT.holders(0, 0), (0, 1))
        self.same(GREAT.holders(0, -1), (-1, 0))
        self.same(GREAT.holders(2, -1), (-2, -1))
        self.same(GREAT.holders(3, 64 * FAR - 7), (-1, 1))
        self.same(GREAT.holders(3, 64 * FAR - 8), (-1, 0))
        self.same(GREAT.way(16 * FAR - 1), [15, 3, 0, 0])
        self.same(GREAT.parts(3, 0), (-1, 7))
        self.same(GREAT.wholes(2, 0), (-1, 0))
        self.same([TALL.owner(0, 3 * FAR), TALL.owner(0, 3 * FAR - 1)], [FAR, FAR - 1])
        self.same(TALL.holds(0, FAR, 3 * FAR + 3), True)
        self.same(TALL.holds(0, FAR, 3 * FAR + 4), False)

    def test_no_level(self):
        for ladder in (PRINTED, TALL, Ladder(1)):
            wrong = no_levels(ladder.levels)
            for call in (ladder.side, ladder.edge):
                self.fails_always(InvalidLevel, call, wrong)
            for call in (ladder.owned, ladder.held, ladder.owner, ladder.holders, ladder.parts, ladder.wholes):
                self.fails_always(InvalidLevel, call, wrong, 0)
                self.fails_always(InvalidLevel, call, wrong, None)
            self.fails_always(InvalidLevel, ladder.holds, wrong, 0, 0)
            self.fails_always(InvalidLevel, ladder.holds, wrong, None, None)

    def test_parts_of_the_level_0_and_wholes_of_the_last_one(self):
        for ladder in (PRINTED, TALL, Ladder(1)):
            for tile in (0, None):
                self.fails(InvalidLevel(0), ladder.parts, 0, tile)
                self.fails(InvalidLevel(ladder.levels - 1), ladder.wholes, ladder.levels - 1, tile)

    def test_no_tile(self):
        for value in NO_INTEGERS:
            for call in (PRINTED.owned, PRINTED.held, PRINTED.parts):
                self.fails(InvalidTile(value), call, 1, value)
            self.fails(InvalidTile(value), PRINTED.wholes, 0, value)
            self.fails(InvalidTile(value), PRINTED.holds, 0, value, 0)
            self.fails(InvalidTile(value), PRINTED.holds, 0, value, None)

    def test_no_cell(self):
        for value in NO_INTEGERS:
            for call in (PRINTED.owner, PRINTED.holders):
                self.fails(InvalidCell(value), call, 1, value)
            self.fails(InvalidCell(value), PRINTED.holds, 0, 0, value)
            self.fails(InvalidCell(value), PRINTED.way, value)

    def test_by_name(self):
        self.same(PRINTED.holds(cell=7, tile=1, level=1), True)
        self.same([PRINTED.owned(tile=1, level=1), PRINTED.held(tile=1, level=1)], [(8, 15), (7, 15)])
        self.same([PRINTED.owner(cell=7, level=1), PRINTED.holders(cell=7, level=1)], [0, (0, 1)])
        for name in ("owned", "held", "parts", "wholes"):
            self.takes(getattr(PRINTED, name), "level", "tile")
        for name in ("owner", "holders"):
            self.takes(getattr(PRINTED, name), "level", "cell")
        for name in ("side", "edge"):
            self.takes(getattr(PRINTED, name), "level")
        self.takes(PRINTED.holds, "level", "tile", "cell")
        self.takes(PRINTED.way, "cell")


class Others(Case):

    def test_times(self):
        self.assertEqual(PRINTED * 3, Ladder(12, [2], [(0, 0), (3, 0)]))
        self.assertEqual(3 * TALL, Ladder(9, [2, 3, 4], [(0, 3), (18, 0), (6, 54), (15, 216)]))
        self.assertEqual([PRINTED * 1, 1 * PRINTED], [PRINTED, PRINTED])
        self.assertEqual((FAR * TALL).sides(), [3 * FAR, 6 * FAR, 18 * FAR, 72 * FAR])

    def test_times_holds_the_same_tiles(self):
        for ladder in SMALL[::4]:
            for level, tile, times in product(range(ladder.levels), (-1, 0, 2), (2, 3)):
                first, last = ladder.held(level, tile)
                self.same((ladder * times).held(level, tile), (first * times, (last + 1) * times - 1))

    def test_times_no_number(self):
        for value in NO_POSITIVES:
            self.fails(InvalidCount(value), lambda: PRINTED * value)
            self.fails(InvalidCount(value), lambda: value * PRINTED)
        self.fails(InvalidCount(PRINTED), lambda: PRINTED * PRINTED)

    def test_turned(self):
        self.assertEqual(PRINTED.turned(), Ladder(4, [2], [(0, 0), (0, 1)]))
        self.assertEqual(TALL.turned(), Ladder(3, [2, 3, 4], [(1, 0), (0, 6), (18, 2), (72, 5)]))
        for ladder in SMALL:
            self.assertEqual(ladder.turned().turned(), ladder)
            first, last = ladder.held(0, 1)
            side = ladder.side(0)
            self.same(ladder.turned().held(0, -2), (-1 - last, -1 - first))
            self.same(ladder.turned().side(0), side)

    def test_cut(self):
        self.assertEqual(TALL.cut(1), Ladder(3, [], [(0, 1)]))
        self.assertEqual(TALL.cut(2), Ladder(3, [2], [(0, 1), (6, 0)]))
        self.assertEqual(TALL.cut(3), Ladder(3, [2, 3], [(0, 1), (6, 0), (2, 18)]))
        self.assertEqual([TALL.cut(4), TALL.cut(levels=4)], [TALL, TALL])
        self.assertEqual(Ladder(5).cut(1), Ladder(5))

    def test_cut_to_no_number(self):
        self.fails_always(InvalidCount, TALL.cut, NO_POSITIVES + [5, FAR])
        self.fails_always(InvalidCount, PRINTED.cut, [3, 4])

    def test_with_edge(self):
        self.assertEqual(PRINTED.with_edge(1, (0, 8)), Ladder(4, [2], [(0, 0), (0, 8)]))
        self.assertEqual(PRINTED.with_edge(edge=(4, 4), level=0), Ladder(4, [2], [(4, 4), (1, 0)]))
        self.assertEqual(PRINTED.with_edge(1, (1, 0)), PRINTED)

    def test_with_no_edge(self):
        for value in NO_COUNT_COUPLES + [(5, 0), (0, 5)]:
            self.fails(InvalidEdge(value), PRINTED.with_edge, 0, value)
        self.fails(InvalidEdge((9, 0)), PRINTED.with_edge, 1, (9, 0))
        self.fails_always(InvalidLevel, PRINTED.with_edge, no_levels(2), (0, 0))
        self.fails_always(InvalidLevel, PRINTED.with_edge, no_levels(2), None)

    def test_the_ladder_itself_stays(self):
        ladder = Ladder(4, [2], [(0, 0), (1, 0)])
        for told in (ladder * 2, 2 * ladder, ladder.turned(), ladder.cut(1), ladder.with_edge(0, (1, 1))):
            self.assertIs(type(told), Ladder)
        self.assertEqual(ladder, PRINTED)
        times = ladder
        times *= 2
        self.assertEqual([ladder.side(0), times.side(0)], [4, 8])


class Comparing(Case):

    def test_equal(self):
        self.assertTrue(Ladder(4, [2], [(0, 0), (1, 0)]) == PRINTED)
        self.assertFalse(Ladder(4, [2], [(0, 0), (1, 0)]) != PRINTED)

    def test_unequal(self):
        for other in (Ladder(5, [2], [(0, 0), (1, 0)]), Ladder(4, [3], [(0, 0), (1, 0)]), Ladder(4, [2]), Ladder(4),
                      Ladder(4, [2], [(0, 0), (0, 1)]), Ladder(4, [2, 2], [(0, 0), (1, 0), (0, 0)])):
            self.assertTrue(PRINTED != other)
            self.assertFalse(PRINTED == other)

    def test_values_of_another_kind(self):
        for other in (4, None, True, (4, [2], [(0, 0), (1, 0)]), [4, 8], History((0, 0)), Ladder, repr(PRINTED)):
            self.assertFalse(PRINTED == other)
            self.assertTrue(PRINTED != other)

    def test_repr(self):
        self.assertEqual(repr(PRINTED), "Ladder(4, [2], [(0, 0), (1, 0)])")
        self.assertEqual(repr(Ladder(1)), "Ladder(1, [], [(0, 0)])")
        self.assertEqual(repr(TALL), "Ladder(3, [2, 3, 4], [(0, 1), (6, 0), (2, 18), (5, 72)])")
        self.assertEqual(repr(Ladder(FAR)), f"Ladder({FAR}, [], [(0, 0)])")
        for ladder in SMALL:
            self.assertEqual(eval(repr(ladder)), ladder)


class Interface(Case):

    def test_all_that_is_listed_stands_in_the_class_itself(self):
        self.stands_in(Ladder, "onceseen.ladders", [
            "__init__", "MOST_LEVELS", "side", "edge", "sides", "owned", "held", "owner", "holders", "holds", "parts",
            "wholes", "way", "__mul__", "__rmul__", "turned", "cut", "with_edge", "__eq__", "__repr__",
        ], ["levels", "period"])

    def test_properties_are_not_assigned(self):
        for name in ("levels", "period"):
            with self.assertRaises(AttributeError):
                setattr(PRINTED, name, 1)


if __name__ == "__main__":
    unittest.main()
