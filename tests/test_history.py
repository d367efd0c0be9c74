"""Histories: edits, moments, versions and where they stand."""

import inspect
import unittest

from onceseen.errors import (InvalidCell, InvalidEdit, InvalidMoment, InvalidStretch, InvalidStretches, MissingError,
                             StripError, WrongVersion)
from onceseen.history import History
from tests.checking import FAR, NO_INTEGERS, NO_STRETCHES, Case, small_histories

PAST = History((3, 4), (0, 3), (4, 9))


def plain_version(history, cell, moment):
    """The version by the words of the document, the edits taken one by one."""
    found = 0
    for number in range(1, moment + 1):
        first, last = history[number]
        if first <= cell and cell <= last:
            found = number
    return found


class Making(Case):

    def test_no_edits(self):
        self.assertEqual(len(History()), 0)
        self.same(History().moment, 0)

    def test_edits_are_numbered_from_one(self):
        self.same([PAST[1], PAST[2], PAST[3]], [(3, 4), (0, 3), (4, 9)])
        self.assertEqual(len(PAST), 3)
        self.same(PAST.moment, 3)

    def test_single_cells_cells_below_0_and_far_ones_are_let(self):
        history = History((5, 5), (-FAR, -FAR), (-FAR, FAR), (-7, -3))
        self.same([history[k] for k in (1, 2, 3, 4)], [(5, 5), (-FAR, -FAR), (-FAR, FAR), (-7, -3)])

    def test_a_value_that_is_no_stretch(self):
        for value in NO_STRETCHES:
            self.fails(InvalidStretches(0), History, value)
            self.fails(InvalidStretches(2), History, (0, 0), (-1, 1), value, (2, 2))

    def test_the_first_of_several_that_are_none_decides(self):
        self.fails(InvalidStretches(1), History, (0, 0), (2, 1), None, [0, 0])
        self.fails(InvalidStretches(0), History, [(0, 0), (1, 1)])

    def test_the_error_is_a_strip_error(self):
        with self.assertRaises(StripError):
            History((True, 1))
        with self.assertRaises(ValueError):
            History((True, 1))


class OfCells(Case):

    def test_each_edit_touches_one_cell(self):
        self.assertEqual(History.of_cells(3, -2, 3, FAR), History((3, 3), (-2, -2), (3, 3), (FAR, FAR)))

    def test_without_cells(self):
        self.assertEqual(History.of_cells(), History())

    def test_a_value_that_is_no_cell(self):
        for value in NO_INTEGERS:
            self.fails(InvalidCell(value), History.of_cells, value)
            self.fails(InvalidCell(value), History.of_cells, 0, 5, value, "later")

    def test_of_kind(self):
        self.assertIs(type(History.of_cells(1)), History)
        self.assertIsInstance(inspect.getattr_static(History, "of_cells"), classmethod)


class Items(Case):

    def test_numbers_of_no_edit(self):
        for value in NO_INTEGERS + [0, -1, 4, FAR, -FAR, slice(1, 2)]:
            self.fails(InvalidEdit(value), lambda: PAST[value])

    def test_without_edits_there_is_no_number(self):
        self.fails(InvalidEdit(1), lambda: History()[1])
        self.fails(InvalidEdit(0), lambda: History()[0])

    def test_the_stretches_are_tuples(self):
        self.same(PAST[3], (4, 9))


class Until(Case):

    def test_up_to_each_moment(self):
        self.assertEqual(PAST.until(0), History())
        self.assertEqual(PAST.until(1), History((3, 4)))
        self.assertEqual(PAST.until(2), History((3, 4), (0, 3)))
        self.assertEqual(PAST.until(3), PAST)
        self.assertEqual(PAST.until(moment=2), History((3, 4), (0, 3)))
        self.assertEqual(History().until(0), History())

    def test_no_moment(self):
        for value in NO_INTEGERS + [-1, 4, FAR]:
            self.fails(InvalidMoment(value), PAST.until, value)
        self.fails(InvalidMoment(1), History().until, 1)

    def test_the_history_itself_stays(self):
        PAST.until(1)
        self.assertEqual(len(PAST), 3)


class Adding(Case):

    def test_one_edit_more(self):
        self.assertEqual(History((3, 4)) + (0, 3) + (4, 9), PAST)
        self.assertEqual(History() + (-FAR, FAR), History((-FAR, FAR)))
        self.assertIs(type(History() + (0, 0)), History)

    def test_the_history_itself_stays(self):
        history = History((3, 4))
        longer = history + (0, 0)
        self.assertEqual((len(history), len(longer)), (1, 2))
        kept = history
        history += (5, 5)
        self.assertEqual((kept, history), (History((3, 4)), History((3, 4), (5, 5))))

    def test_no_stretch(self):
        for value in NO_STRETCHES + [History((3, 4))]:
            self.fails(InvalidStretch(value), lambda: PAST + value)
        self.assertEqual(PAST, History((3, 4), (0, 3), (4, 9)))


class Touches(Case):

    def test_from_first_to_last(self):
        self.same([PAST.touches(1, cell) for cell in (2, 3, 4, 5)], [False, True, True, False])
        self.same([PAST.touches(2, cell) for cell in (-1, 0, 3, 4)], [False, True, True, False])
        self.same(PAST.touches(number=3, cell=9), True)

    def test_a_single_far_cell(self):
        history = History((-FAR, -FAR))
        self.same([history.touches(1, -FAR + k) for k in (-1, 0, 1)], [False, True, False])

    def test_wrong_numbers_come_ahead_of_wrong_cells(self):
        for value in NO_INTEGERS + [0, -1, 4]:
            self.fails(InvalidEdit(value), PAST.touches, value, 3)
            self.fails(InvalidEdit(value), PAST.touches, value, None)

    def test_no_cell(self):
        for value in NO_INTEGERS:
            self.fails(InvalidCell(value), PAST.touches, 1, value)


class Version(Case):

    def test_the_printed_values(self):
        self.same([PAST.version(3), PAST.version(4, 2), PAST.versions(4), PAST.stands(4, 1)], [2, 1, [0, 1, 3], (1, 3)])

    def test_ahead_of_all_edits_it_is_0(self):
        for cell in (-1, 0, 3, 4, 9, 10, FAR):
            self.same(PAST.version(cell, 0), 0)
            self.same(History().version(cell), 0)

    def test_at_the_last_moment(self):
        self.same([PAST.version(cell) for cell in (-1, 0, 3, 4, 9, 10)], [0, 2, 2, 3, 3, 0])
        self.same([PAST.version(cell, 3) for cell in (-1, 0, 3, 4, 9, 10)], [0, 2, 2, 3, 3, 0])
        self.same([PAST.version(cell, None) for cell in (3, 4)], [2, 3])

    def test_by_name(self):
        self.same(PAST.version(moment=2, cell=4), 1)

    def test_small_histories_by_the_words(self):
        for history in small_histories():
            for cell in (-2, -1, 0, 1, 2):
                told = [plain_version(history, cell, moment) for moment in range(len(history) + 1)]
                self.same([history.version(cell, moment) for moment in range(len(history) + 1)], told)
                self.same(history.version(cell), told[-1])
                self.same(history.versions(cell), sorted(set(told)))

    def test_far_cells(self):
        history = History((FAR, FAR), (-FAR, FAR - 1), (FAR, FAR))
        self.same([history.version(cell) for cell in (FAR, FAR - 1, -FAR, -FAR - 1)], [3, 2, 2, 0])
        self.same(history.versions(FAR), [0, 1, 3])

    def test_no_cell_comes_ahead_of_no_moment(self):
        for value in NO_INTEGERS:
            self.fails(InvalidCell(value), PAST.version, value)
            self.fails(InvalidCell(value), PAST.version, value, -1)
            self.fails(InvalidCell(value), PAST.versions, value)

    def test_no_moment(self):
        for value in NO_INTEGERS + [-1, 4, FAR]:
            if value is not None:
                self.fails(InvalidMoment(value), PAST.version, 3, value)
        self.fails(InvalidMoment(1), History().version, 3, 1)


class Versions(Case):

    def test_rising_with_0_first(self):
        self.same(PAST.versions(3), [0, 1, 2])
        self.same(PAST.versions(cell=10), [0])
        self.same(History().versions(3), [0])

    def test_the_list_is_new(self):
        PAST.versions(4).append(7)
        self.same(PAST.versions(4), [0, 1, 3])


class Stands(Case):

    def test_up_to_the_next_edit_of_the_cell(self):
        self.same([PAST.stands(4, 0), PAST.stands(4, 1), PAST.stands(3, 1)], [(0, 1), (1, 3), (1, 2)])

    def test_to_the_last_moment(self):
        self.same([PAST.stands(4, 3), PAST.stands(3, 2), PAST.stands(10, 0)], [(3, 4), (2, 4), (0, 4)])
        self.same(History().stands(3, 0), (0, 1))
        self.same(PAST.stands(version=1, cell=4), (1, 3))

    def test_small_histories_by_the_words(self):
        for history in small_histories():
            for cell in (-2, -1, 0, 1):
                for version in history.versions(cell):
                    begin, end = history.stands(cell, version)
                    moments = [m for m in range(len(history) + 1) if plain_version(history, cell, m) == version]
                    self.assertEqual(list(range(begin, end)), moments)

    def test_no_version_of_the_cell(self):
        for value in NO_INTEGERS + [-1, 2, 4, FAR]:
            self.fails(WrongVersion(4, value), PAST.stands, 4, value)
        self.fails(WrongVersion(10, 1), PAST.stands, 10, 1)
        self.fails(WrongVersion(0, 1), History().stands, 0, 1)
        with self.assertRaises(MissingError):
            PAST.stands(4, 2)

    def test_no_cell_comes_ahead_of_no_version(self):
        for value in NO_INTEGERS:
            self.fails(InvalidCell(value), PAST.stands, value, 0)
            self.fails(InvalidCell(value), PAST.stands, value, None)


class Comparing(Case):

    def test_equal(self):
        self.assertTrue(History((3, 4), (0, 0)) == History((3, 4), (0, 0)))
        self.assertFalse(History((3, 4), (0, 0)) != History((3, 4), (0, 0)))
        self.assertTrue(History() == History())

    def test_unequal(self):
        for other in (History(), History((3, 4)), History((0, 0), (3, 4)), History((3, 4), (0, 0), (0, 0)),
                      History((3, 4), (0, 1)), History((2, 4), (0, 0))):
            self.assertTrue(History((3, 4), (0, 0)) != other)
            self.assertFalse(History((3, 4), (0, 0)) == other)

    def test_values_of_another_kind(self):
        for other in (((3, 4),), [(3, 4)], (3, 4), None, 1, True, "History((3, 4))", History):
            self.assertFalse(History((3, 4)) == other)
            self.assertTrue(History((3, 4)) != other)
        self.assertFalse(History() == ())

    def test_repr(self):
        self.assertEqual(repr(History((3, 4), (0, 0))), "History((3, 4), (0, 0))")
        self.assertEqual(repr(History((3, 4))), "History((3, 4))")
        self.assertEqual(repr(History()), "History()")
        self.assertEqual(repr(History((-FAR, FAR))), f"History(({-FAR}, {FAR}))")


class Interface(Case):

    def test_all_that_is_listed_stands_in_the_class_itself(self):
        for name in ("__init__", "of_cells", "moment", "__len__", "__getitem__", "until", "__add__", "touches",
                     "version", "versions", "stands", "__eq__", "__repr__"):
            self.assertIn(name, vars(History))
        self.assertIsInstance(vars(History)["moment"], property)
        self.assertEqual(History.__module__, "onceseen.history")

    def test_the_names_of_the_parameters(self):
        told = {"until": ["moment"], "touches": ["number", "cell"], "version": ["cell", "moment"],
                "versions": ["cell"], "stands": ["cell", "version"]}
        for name, params in told.items():
            self.assertEqual(list(inspect.signature(getattr(History(), name)).parameters), params)

    def test_it_is_not_iterated_over(self):
        with self.assertRaises(TypeError):
            list(PAST)

    def test_the_moment_is_not_assigned(self):
        with self.assertRaises(AttributeError):
            PAST.moment = 1


if __name__ == "__main__":
    unittest.main()
