"""What holds for all calls: how arguments are passed, what is copied, which error comes first."""

import unittest

from onceseen.books import Book
from onceseen.contents import Content
from onceseen.errors import (InvalidBox, InvalidCare, InvalidCell, InvalidCount, InvalidDeed, InvalidEdges, InvalidEdit,
                             InvalidFactors, InvalidHand, InvalidLevel, InvalidLook, InvalidMargins, InvalidMoment,
                             InvalidPairs, InvalidSide, InvalidStretch, InvalidStretches, InvalidTile, LimitError,
                             MissingError, StateError, StripError, TooMany, WrongVersion)
from onceseen.floors import Floor
from onceseen.history import History
from onceseen.ladders import Ladder
from onceseen.margins import Margins
from onceseen.moments import is_bar, is_of, moments_of
from onceseen.runs import Run
from onceseen.work import least_work, widest, work, work_at
from tests.checking import Case

PAST = History((3, 4), (0, 3), (4, 9))
LADDER = Ladder(4, [2], [(0, 0), (1, 0)])
MARGINS = Margins(LADDER)
FLOOR = Floor(MARGINS, MARGINS)
BOOK = Book(MARGINS)


class Numbers(Case):

    def test_true_is_not_1_and_false_is_not_0(self):
        self.fails(InvalidCell(True), PAST.version, True)
        self.fails(InvalidMoment(False), PAST.until, False)
        self.fails(InvalidMoment(True), PAST.version, 3, True)
        self.fails(InvalidEdit(True), PAST.touches, True, 3)
        self.fails(InvalidCell(False), Content.at, PAST, 1, [False])
        self.fails(InvalidCell(True), History.of_cells, 1, True)

    def test_nor_in_ladders_margins_and_work(self):
        self.fails(InvalidSide(True), Ladder, True)
        self.fails(InvalidLevel(True), LADDER.side, True)
        self.fails(InvalidLevel(False), MARGINS.missed, False)
        self.fails(InvalidTile(False), LADDER.owned, 0, False)
        self.fails(InvalidCount(True), lambda: LADDER * True)
        self.fails(InvalidCount(True), lambda: True * MARGINS)
        self.fails(InvalidCount(True), least_work, MARGINS, True)
        self.fails(InvalidCount(False), widest, MARGINS, False)
        self.fails(InvalidMoment(False), is_of, PAST, Content(), False)

    def test_nor_in_floors_books_and_runs(self):
        self.fails(InvalidCount(True), FLOOR.least_work, True, 1)
        self.fails(InvalidCare("hands", True), Book, MARGINS, hands=True)
        self.fails(InvalidCare("drop", 0), BOOK.with_care, "drop", 0)
        self.fails(InvalidStretch((False, False)), Run(BOOK).edit, False)
        self.fails(InvalidHand(False), Run(BOOK).end, False)
        self.fails(InvalidDeed(("end", False)), Run(BOOK).do, ("end", False))

    def test_nor_inside_other_values(self):
        self.fails(InvalidFactors(0), Ladder, 4, [True])
        self.fails(InvalidEdges(0), Ladder, 4, [], [(True, 0)])
        self.fails(InvalidMargins(1), Margins, LADDER, [(0, 0), (0, False)])
        self.fails(InvalidStretch((0, True)), work, MARGINS, 0, True)
        self.fails(InvalidBox(((0, 1), (False, 1))), FLOOR.work, ((0, 1), (False, 1)))
        self.fails(InvalidCell((True, 0)), FLOOR.holders, 0, (True, 0))
        self.fails(InvalidLook((0, False, 0)), Run(BOOK).look_at, (0, False, 0))
        self.same(is_bar(History((0, 0)), Content([(0, 0), (0, 1)]), ((0, 0), (0, 1), True)), False)
        self.fails(InvalidStretches(1), History, (0, 1), (0, True))
        self.fails(InvalidPairs(1), Content, [(1, 0), (1, False)])
        self.same([(1, True) in Content([(1, 1)]), (True, 1) in Content([(1, 1)])], [False, False])

    def test_results_are_no_bools_where_numbers_are_told(self):
        history = History((1, 1))
        self.same([history.version(1, 0), history.version(1, 1), history.moment], [0, 1, 1])
        self.same([history.versions(1), history.stands(1, 0), history.stands(1, 1)], [[0, 1], (0, 1), (1, 2)])


class ListsAndTuples(Case):

    def test_a_tuple_passes_for_a_list(self):
        self.assertEqual(Content(((3, 1), (4, 0))), Content([(3, 1), (4, 0)]))
        self.assertEqual(Content.at(PAST, 1, (3, 4)), Content.at(PAST, 1, [3, 4]))

    def test_a_tuple_passes_for_a_list_of_levels_and_deeds(self):
        self.assertEqual(Ladder(4, (2,), ((0, 0), (1, 0))), LADDER)
        self.assertEqual(Margins(LADDER, ((0, 0), (0, 1))), MARGINS)
        self.same(Run(BOOK).do_all((("edit", 3, 4), ("begin", 0, 0))), [1, 0])
        self.assertEqual(Run(BOOK).content((0, 0, 0), (3, 9)), Content([(3, 0)]))

    def test_a_list_does_not_pass_for_a_tuple_of_the_later_files(self):
        self.fails(InvalidEdges(1), Ladder, 4, [2], [(0, 0), [1, 0]])
        self.fails(InvalidMargins(0), Margins, LADDER, [[0, 0], (0, 1)])
        self.fails(InvalidMargins(None), Margins.by_steps, LADDER, [0, 0], [(0, 0)])
        self.fails(InvalidBox([(0, 1), (0, 1)]), FLOOR.work, [(0, 1), (0, 1)])
        self.fails(InvalidCell([0, 1]), FLOOR.holders, 0, [0, 1])
        self.fails(InvalidLook([0, 0, 0]), Run(BOOK).bar, [0, 0, 0])
        self.fails(InvalidDeed(["edit", 3, 4]), Run(BOOK).do, ["edit", 3, 4])

    def test_a_list_does_not_pass_for_a_tuple(self):
        self.fails(InvalidStretches(0), History, [3, 4])
        self.fails(InvalidPairs(0), Content, [[3, 1]])
        self.same([3, 1] in Content([(3, 1)]), False)


class Sequence(Case):

    def test_parameters_are_looked_at_in_their_sequence(self):
        self.fails(InvalidCell(None), PAST.version, None, "no moment")
        self.fails(InvalidEdit("no number"), PAST.touches, "no number", None)
        self.fails(InvalidCell("no cell"), PAST.stands, "no cell", "no version")
        self.fails(InvalidMoment(4), Content.at, PAST, 4, "no list")

    def test_parameters_of_the_later_files_are_looked_at_in_their_sequence(self):
        self.fails(InvalidSide(0), Ladder, 0, None, "edges")
        self.fails(InvalidFactors(None), Ladder, 4, None, "edges")
        self.fails(InvalidLevel(2), LADDER.holds, 2, None, None)
        self.fails(InvalidTile(None), LADDER.holds, 1, None, None)
        self.fails(InvalidLevel(2), MARGINS.marks, 2, None, 4, 3)
        self.fails(InvalidTile(None), MARGINS.marks, 1, None, 4, 3)
        self.fails(InvalidLevel(2), work_at, MARGINS, 2, 4, 3)
        self.fails(InvalidLevel(2), FLOOR.marked, 2, None)
        self.fails(InvalidCount(0), FLOOR.mean_work, 0, None)
        self.fails(InvalidLevel(2), Run(BOOK).version, 2, None, None)
        self.fails(InvalidLook(None), Run(BOOK).content, None, None)
        self.fails(InvalidMoment(4), is_of, PAST, Content([(3, 3)]), 4)

    def test_errors_of_several_parameters_come_last(self):
        self.fails(TooMany("levels", 4), Ladder, 4, [2] * 4, "edges")
        self.fails(InvalidFactors(4), Ladder, 4, [2] * 4 + [9])
        self.fails(WrongVersion(3, 3), is_bar, PAST, Content([(3, 3)]), None)
        self.fails(InvalidLevel(0), LADDER.parts, 0, None)
        self.fails(InvalidTile(None), Run(BOOK).begin, 1, None)

    def test_the_sequence_by_name_does_not_count(self):
        self.fails(InvalidLevel(2), LADDER.holds, cell=None, tile=None, level=2)
        self.fails(InvalidCare("source", None), lambda: Book(MARGINS, wait=None, source=None))
        self.fails(InvalidCell(None), PAST.version, moment="no moment", cell=None)
        self.fails(InvalidMoment(4), Content.at, cells="no list", moment=4, history=PAST)

    def test_the_first_wrong_one_of_a_list_decides(self):
        self.fails(InvalidCell("a"), Content.at, PAST, 0, [1, "a", None])
        self.fails(InvalidCell("a"), Content().only, 1, "a", None)
        self.fails(InvalidCell(None), History.of_cells, None, "a")


class Staying(Case):

    def test_nothing_changes_when_a_call_raises_an_error(self):
        history, content = History((3, 4), (0, 0)), Content([(3, 1), (4, 0)])
        calls = [
            lambda: history[9], lambda: history.until(9), lambda: history + (4, 3), lambda: history.touches(1, None),
            lambda: history.version(3, 9), lambda: history.versions("3"), lambda: history.stands(3, 2),
            lambda: content.versions(None), lambda: content.only(3, None), lambda: Content.at(history, 9, [3]),
        ]
        for call in calls:
            with self.assertRaises((StripError, LookupError)):
                call()
        self.assertEqual(repr(history), "History((3, 4), (0, 0))")
        self.assertEqual(repr(content), "Content([(3, 1), (4, 0)])")

    def test_nothing_changes_in_the_objects_of_the_later_files(self):
        run = Run(BOOK)
        run.edit(3, 4)
        calls = [
            lambda: LADDER * 0, lambda: LADDER.cut(3), lambda: LADDER.with_edge(0, (9, 9)), lambda: MARGINS.pair(2),
            lambda: MARGINS | Margins(LADDER * 2), lambda: MARGINS.parting(Margins(LADDER * 2)),
            lambda: FLOOR.work(None), lambda: BOOK.with_care("order", "none"), lambda: run.edit(4, 3),
            lambda: run.begin(1, 0), lambda: run.end(0), lambda: run.look_at((0, 0, 0)), lambda: run.do(None),
            lambda: run.do_all([("begin", 0, 0), None]), lambda: run.version(0, 0, 9), lambda: run.edit(0, 9999),
        ]
        for call in calls:
            with self.assertRaises((StripError, MissingError, StateError, LimitError)):
                call()
        self.assertEqual([LADDER, MARGINS], [Ladder(4, [2], [(0, 0), (1, 0)]), Margins(LADDER, [(0, 0), (0, 1)])])
        self.assertEqual([FLOOR, BOOK], [Floor(MARGINS, MARGINS), Book(MARGINS)])
        self.same([run.deeds(), run.marked(0), run.busy()], [[("edit", 3, 4)], [0, 1], []])

    def test_a_repeated_call_of_the_later_files_returns_an_equal_result(self):
        run = Run(Book(MARGINS, wait=False, order="any"))
        run.do_all([("edit", 3, 4), ("begin", 0, 0), ("end", 0)])
        for call in (lambda: run.bar((0, 0, 1)), lambda: run.look_at((0, 0, 1)), lambda: run.content((0, 0, 1), [3, 4]),
                     lambda: MARGINS.parting(Margins(LADDER, [(1, 0), (0, 2)])), lambda: LADDER.wholes(0, 1),
                     lambda: least_work(MARGINS, 5), lambda: moments_of(PAST, Content([(3, 1)]))):
            self.assertEqual(call(), call())

    def test_a_repeated_call_returns_an_equal_result(self):
        content = Content([(4, 2), (3, 1)])
        for _ in range(2):
            self.same([PAST.versions(4), PAST.stands(4, 1), content.pairs(), content.cells()],
                      [[0, 1, 3], (1, 3), [(3, 1), (4, 2)], [3, 4]])

    def test_what_is_passed_stays_as_it_was(self):
        cells, pairs = [4, 3, 4], [(4, 2), (3, 1), (4, 2)]
        Content.at(PAST, 2, cells)
        Content(pairs)
        self.same([cells, pairs], [[4, 3, 4], [(4, 2), (3, 1), (4, 2)]])


if __name__ == "__main__":
    unittest.main()
