"""Contents: sets of pairs, and what of a history stands at one moment."""

import inspect
import unittest
from itertools import product

from onceseen.contents import Content
from onceseen.errors import InvalidCell, InvalidMoment, InvalidPairs, StripError
from onceseen.history import History
from tests.checking import FAR, NO_INTEGERS, NO_LISTS, NO_PAIRS, Case, small_histories

PAST = History((3, 4), (0, 3), (4, 9))
SHOWN = Content([(4, 0), (3, 1), (4, 2)])


class Making(Case):

    def test_the_pairs_are_sorted(self):
        self.same(SHOWN.pairs(), [(3, 1), (4, 0), (4, 2)])
        self.same(Content([(4, 2), (-FAR, 0), (FAR, 0), (-1, 3)]).pairs(), [(-FAR, 0), (-1, 3), (4, 2), (FAR, 0)])

    def test_no_pairs(self):
        for none in (Content(), Content([]), Content(()), Content(pairs=[])):
            self.same(none.pairs(), [])

    def test_the_same_pair_several_times_is_one(self):
        self.same(Content([(3, 1), (4, 0), (3, 1), (3, 1)]).pairs(), [(3, 1), (4, 0)])

    def test_a_tuple_passes_for_the_list(self):
        self.same(Content(((4, 0), (3, 1))).pairs(), [(3, 1), (4, 0)])

    def test_no_list(self):
        for value in NO_LISTS + [SHOWN]:
            self.fails(InvalidPairs(None), Content, value)
            self.fails(InvalidPairs(None), Content, pairs=value)

    def test_a_value_that_is_no_pair(self):
        for value in NO_PAIRS:
            self.fails(InvalidPairs(0), Content, [value])
            self.fails(InvalidPairs(2), Content, ((3, 1), (-4, 0), value, (3, 1)))

    def test_the_first_of_several_that_are_none_decides(self):
        self.fails(InvalidPairs(1), Content, [(3, 1), [3, 1], None, (3, -1)])

    def test_the_error_is_a_strip_error(self):
        with self.assertRaises(StripError):
            Content(None)
        with self.assertRaises(ValueError):
            Content([(0, -1)])

    def test_what_was_passed_is_copied_and_stays(self):
        passed = [(4, 0), (3, 1), (4, 0)]
        content = Content(passed)
        self.same(passed, [(4, 0), (3, 1), (4, 0)])
        passed.append((5, 0))
        self.same(content.pairs(), [(3, 1), (4, 0)])


class At(Case):

    def test_the_versions_of_the_cells_at_the_moment(self):
        cells = [4, 3, 0, 10]
        self.same(Content.at(PAST, 0, cells).pairs(), [(0, 0), (3, 0), (4, 0), (10, 0)])
        self.same(Content.at(PAST, 1, cells).pairs(), [(0, 0), (3, 1), (4, 1), (10, 0)])
        self.same(Content.at(PAST, 2, cells).pairs(), [(0, 2), (3, 2), (4, 1), (10, 0)])
        self.same(Content.at(PAST, 3, cells).pairs(), [(0, 2), (3, 2), (4, 3), (10, 0)])
        self.same(cells, [4, 3, 0, 10])

    def test_cells_in_a_tuple_several_times_far_or_not_at_all(self):
        self.same(Content.at(PAST, 2, (3, 3, -FAR, FAR)).pairs(), [(-FAR, 0), (3, 2), (FAR, 0)])
        self.same(Content.at(PAST, 2, []).pairs(), [])
        self.same(Content.at(History(), 0, [5]).pairs(), [(5, 0)])

    def test_by_name(self):
        self.same(Content.at(cells=[4], moment=2, history=PAST).pairs(), [(4, 1)])

    def test_no_moment_comes_first(self):
        for value in NO_INTEGERS + [-1, 4, FAR]:
            self.fails(InvalidMoment(value), Content.at, PAST, value, [3])
            self.fails(InvalidMoment(value), Content.at, PAST, value, None)
            self.fails(InvalidMoment(value), Content.at, PAST, value, [])
        self.fails(InvalidMoment(1), Content.at, History(), 1, [3])

    def test_no_list_of_cells(self):
        for value in NO_LISTS:
            self.fails(InvalidCell(value), Content.at, PAST, 1, value)

    def test_no_cells_in_the_list(self):
        for value in NO_INTEGERS:
            self.fails(InvalidCell(value), Content.at, PAST, 1, [3, value, "later"])
            self.fails(InvalidCell(value), Content.at, PAST, 1, (value,))

    def test_of_kind(self):
        self.assertIs(type(Content.at(PAST, 1, [3])), Content)
        self.assertIsInstance(inspect.getattr_static(Content, "at"), classmethod)


class Moments(Case):
    """What is of a moment, told by the versions that stand at it."""

    def test_just_the_versions_of_the_moment_stand_at_it(self):
        for history in small_histories():
            for moment in range(len(history) + 1):
                content = Content.at(history, moment, [-1, 0, 1])
                for cell in (-1, 0, 1):
                    for version in history.versions(cell):
                        begin, end = history.stands(cell, version)
                        self.assertEqual((cell, version) in content, begin <= moment < end)

    def test_the_moments_of_a_content_are_in_a_row(self):
        for history in small_histories():
            for versions in product(history.versions(-1), history.versions(0)):
                content = Content(list(zip((-1, 0), versions)))
                moments = [m for m in range(len(history) + 1) if content <= Content.at(history, m, content.cells())]
                end = min([history.stands(*pair)[1] for pair in content.pairs()])
                self.assertEqual(moments, list(range(max(versions), end)))

    def test_without_pairs_it_is_of_all_moments(self):
        for moment in range(4):
            self.assertTrue(Content() <= Content.at(PAST, moment, [3]))


class Reading(Case):

    def test_cells(self):
        self.same(SHOWN.cells(), [3, 4])
        self.same(Content([(FAR, 0), (-2, 5), (-2, 1)]).cells(), [-2, FAR])
        self.same(Content().cells(), [])

    def test_versions(self):
        self.same([SHOWN.versions(cell) for cell in (3, 4, 5)], [[1], [0, 2], []])
        self.same(Content([(1, 9), (1, 10), (1, 2)]).versions(cell=1), [2, 9, 10])
        self.same(Content().versions(-FAR), [])

    def test_versions_of_no_cell(self):
        for value in NO_INTEGERS:
            self.fails(InvalidCell(value), SHOWN.versions, value)

    def test_returned_lists_are_new(self):
        SHOWN.pairs().append((9, 9))
        SHOWN.cells().append(9)
        SHOWN.versions(4).clear()
        self.same([SHOWN.pairs(), SHOWN.cells(), SHOWN.versions(4)], [[(3, 1), (4, 0), (4, 2)], [3, 4], [0, 2]])

    def test_in(self):
        self.same([pair in SHOWN for pair in [(3, 1), (4, 0), (4, 2)]], [True, True, True])
        self.same([pair in SHOWN for pair in [(3, 0), (4, 1), (5, 0)]], [False, False, False])

    def test_any_value_may_be_asked_for(self):
        content = Content([(3, 1), (1, 1), (0, 0), (1, 0)])
        for value in NO_PAIRS + NO_INTEGERS + [(True, True), (1, False), (3, 1, None), SHOWN]:
            self.same(value in content, False)
        self.same((0, 0) in Content(), False)

    def test_len(self):
        self.assertEqual([len(Content()), len(SHOWN), len(Content([(3, 1), (3, 1)]))], [0, 3, 1])

    def test_truth(self):
        self.same([bool(Content()), bool(SHOWN), bool(Content([(0, 0)]))], [False, True, True])

    def test_only(self):
        self.assertEqual(SHOWN.only(4), Content([(4, 0), (4, 2)]))
        self.assertEqual(SHOWN.only(4, 3, 4, 7), SHOWN)
        self.assertEqual(SHOWN.only(7), Content())
        self.assertEqual(SHOWN.only(), Content())
        self.assertEqual(Content().only(3), Content())
        self.assertIs(type(SHOWN.only(3)), Content)

    def test_only_of_no_cells(self):
        for value in NO_INTEGERS:
            self.fails(InvalidCell(value), SHOWN.only, value)
            self.fails(InvalidCell(value), SHOWN.only, 3, 9, value, "later")


class Joining(Case):
    OTHER = Content([(4, 2), (5, 0), (3, 2)])

    def test_both(self):
        self.same((SHOWN & self.OTHER).pairs(), [(4, 2)])
        self.same((SHOWN & Content()).pairs(), [])
        self.same((SHOWN & SHOWN).pairs(), SHOWN.pairs())

    def test_either(self):
        self.same((SHOWN | self.OTHER).pairs(), [(3, 1), (3, 2), (4, 0), (4, 2), (5, 0)])
        self.same((SHOWN | Content()).pairs(), SHOWN.pairs())
        self.same((Content() | SHOWN).pairs(), SHOWN.pairs())

    def test_the_first_alone(self):
        self.same((SHOWN - self.OTHER).pairs(), [(3, 1), (4, 0)])
        self.same((self.OTHER - SHOWN).pairs(), [(3, 2), (5, 0)])
        self.same((SHOWN - SHOWN).pairs(), [])
        self.same((Content() - SHOWN).pairs(), [])

    def test_all_small_contents_by_their_pairs(self):
        pairs = [(0, 0), (0, 1), (1, 0)]
        lists = [[pair for pair, taken in zip(pairs, choice) if taken] for choice in product((0, 1), repeat=3)]
        for one, other in product(lists, repeat=2):
            a, b = Content(one), Content(other)
            self.same((a & b).pairs(), sorted(set(one) & set(other)))
            self.same((a | b).pairs(), sorted(set(one) | set(other)))
            self.same((a - b).pairs(), sorted(set(one) - set(other)))
            self.same(a <= b, set(one) <= set(other))
            self.same(a == b, set(one) == set(other))

    def test_the_contents_themselves_stay(self):
        one, other = Content([(3, 1), (4, 0)]), Content([(3, 1), (5, 0)])
        for told in (one & other, one | other, one - other):
            self.assertIs(type(told), Content)
        self.same([one.pairs(), other.pairs()], [[(3, 1), (4, 0)], [(3, 1), (5, 0)]])

    def test_all_pairs_in_the_other(self):
        self.same([Content([(4, 0)]) <= SHOWN, SHOWN <= SHOWN, Content() <= SHOWN], [True, True, True])
        self.same([SHOWN <= Content([(4, 0)]), Content([(4, 1)]) <= SHOWN, SHOWN <= Content()], [False, False, False])
        self.same(SHOWN >= Content([(4, 0)]), True)


class Comparing(Case):

    def test_equal(self):
        self.assertTrue(Content([(3, 1), (4, 0)]) == Content(((4, 0), (3, 1), (4, 0))))
        self.assertFalse(Content([(3, 1), (4, 0)]) != Content([(4, 0), (3, 1)]))
        self.assertTrue(Content() == Content([]))

    def test_unequal(self):
        for other in (Content(), Content([(3, 1)]), Content([(3, 1), (4, 1)]), Content([(3, 1), (4, 0), (4, 1)])):
            self.assertTrue(Content([(3, 1), (4, 0)]) != other)
            self.assertFalse(Content([(3, 1), (4, 0)]) == other)

    def test_values_of_another_kind(self):
        for other in ([(3, 1)], ((3, 1),), {(3, 1)}, {(3, 1): True}, (3, 1), None, True, 1, History((3, 3)), Content):
            self.assertFalse(Content([(3, 1)]) == other)
            self.assertTrue(Content([(3, 1)]) != other)
        self.assertFalse(Content() == History())
        self.assertFalse(Content() == [])

    def test_repr(self):
        self.assertEqual(repr(Content([(4, 0), (3, 1), (4, 0)])), "Content([(3, 1), (4, 0)])")
        self.assertEqual(repr(Content()), "Content([])")
        self.assertEqual(repr(Content([(-FAR, FAR)])), f"Content([({-FAR}, {FAR})])")


class Interface(Case):

    def test_all_that_is_listed_stands_in_the_class_itself(self):
        for name in ("__init__", "at", "pairs", "cells", "versions", "__contains__", "__len__", "__and__", "__or__",
                     "__sub__", "__le__", "only", "__eq__", "__repr__"):
            self.assertIn(name, vars(Content))
        self.assertEqual(Content.__module__, "onceseen.contents")

    def test_the_names_of_the_parameters(self):
        self.assertEqual(list(inspect.signature(Content).parameters), ["pairs"])
        told = {"at": ["history", "moment", "cells"], "pairs": [], "cells": [], "versions": ["cell"]}
        for name, params in told.items():
            self.assertEqual(list(inspect.signature(getattr(Content(), name)).parameters), params)

    def test_it_is_not_iterated_over(self):
        with self.assertRaises(TypeError):
            list(SHOWN)


if __name__ == "__main__":
    unittest.main()
