"""What holds for all calls: how arguments are passed, what is copied, which error comes first."""

import unittest

from onceseen.badruns import bad_run, is_bad_run
from onceseen.books import Book
from onceseen.cares import freest, is_safe, mends, needless
from onceseen.certificates import is_certificate, never, wrong_states
from onceseen.claims import is_paper, is_true, paper_for
from onceseen.contents import Content
from onceseen.desk import Desk
from onceseen.errors import (InvalidBox, InvalidCare, InvalidCell, InvalidClaim, InvalidCommand, InvalidCount,
                             InvalidDeed, InvalidEdges, InvalidEdit, InvalidEdits, InvalidFactors, InvalidHand,
                             InvalidLevel, InvalidLook, InvalidMargins, InvalidMoment, InvalidPairs, InvalidSide,
                             InvalidState, InvalidStretch, InvalidStretches, InvalidText, InvalidTile, InvalidWish,
                             LimitError, MissingError, NotHeld, StateError, StripError, TooMany, WrongVersion)
from onceseen.floors import Floor
from onceseen.history import History
from onceseen.ladders import Ladder
from onceseen.margins import Margins
from onceseen.moments import is_bar, is_of, moments_of
from onceseen.places import ends, first_fault, keeps, kinds, place_of, places
from onceseen.runs import Run
from onceseen.systems import System
from onceseen.texts import line_of, read_book, read_deed, text_of
from onceseen.work import least_work, widest, work, work_at
from tests.checking import Case

PAST = History((3, 4), (0, 3), (4, 9))
LADDER = Ladder(4, [2], [(0, 0), (1, 0)])
MARGINS = Margins(LADDER)
FLOOR = Floor(MARGINS, MARGINS)
BOOK = Book(MARGINS)
SYSTEM = System(BOOK, (1, 0, 0), 3, 3, edits=1)
CLAIM = {"claim": "keeps", "book": text_of(BOOK), "level": 1, "width": 1, "wish": "fresh"}


class Numbers(Case):

    def test_true_is_not_1_and_false_is_not_0(self):
        self.fails(InvalidCell(True), PAST.version, True)
        self.fails(InvalidMoment(False), PAST.until, False)
        self.fails(InvalidMoment(True), PAST.version, 3, True)
        self.fails(InvalidEdit(True), PAST.touches, True, 3)
        self.fails(InvalidCell(False), Content.at, PAST, 1, [False])
        self.fails(InvalidCell(True), History.of_cells, 1, True)

    def test_nor_in_ladders_margins_and_work(self):
        self.fails(InvalidSide(True), Ladder, True)
        self.fails(InvalidLevel(True), LADDER.side, True)
        self.fails(InvalidLevel(False), MARGINS.missed, False)
        self.fails(InvalidTile(False), LADDER.owned, 0, False)
        self.fails(InvalidCount(True), lambda: LADDER * True)
        self.fails(InvalidCount(True), lambda: True * MARGINS)
        self.fails(InvalidCount(True), least_work, MARGINS, True)
        self.fails(InvalidCount(False), widest, MARGINS, False)
        self.fails(InvalidMoment(False), is_of, PAST, Content(), False)

    def test_nor_in_floors_books_and_runs(self):
        self.fails(InvalidCount(True), FLOOR.least_work, True, 1)
        self.fails(InvalidCare("hands", True), Book, MARGINS, hands=True)
        self.fails(InvalidCare("drop", 0), BOOK.with_care, "drop", 0)
        self.fails(InvalidStretch((False, False)), Run(BOOK).edit, False)
        self.fails(InvalidHand(False), Run(BOOK).end, False)
        self.fails(InvalidDeed(("end", False)), Run(BOOK).do, ("end", False))

    def test_nor_in_systems_places_cares_and_claims(self):
        self.fails(InvalidLook((True, 0, 0)), System, BOOK, (True, 0, 0), 3, 3, edits=1)
        self.fails(InvalidCell(True), System, BOOK, (1, 0, 0), True, 3, edits=1)
        self.fails(InvalidEdits(True), System, BOOK, (1, 0, 0), 3, 3, edits=True)
        self.fails(InvalidCount(True), SYSTEM.bundles, True)
        self.fails(InvalidState((False, *SYSTEM.start()[1:])), SYSTEM.nexts, (False, *SYSTEM.start()[1:]))
        self.same(is_certificate(SYSTEM, "whole", [(bool(state[0]), *state[1:]) for state in SYSTEM.table()]), False)
        self.same(is_bad_run(BOOK, (1, 0, 0), "fresh", [("edit", True, 3)]), False)
        self.fails(InvalidLevel(True), ends, BOOK, True)
        self.fails(InvalidCell(False), place_of, BOOK, 0, False)
        self.fails(InvalidCount(True), keeps, BOOK, "whole", 0, True)
        self.fails(InvalidCell(True), is_safe, BOOK, "whole", (1, 0, 0), 3, True)
        self.fails(InvalidDeed(("end", True)), line_of, ("end", True))
        for key in ("level", "width"):
            self.fails(InvalidClaim({**CLAIM, key: True}), is_true, {**CLAIM, key: True})

    def test_nor_inside_other_values(self):
        self.fails(InvalidFactors(0), Ladder, 4, [True])
        self.fails(InvalidEdges(0), Ladder, 4, [], [(True, 0)])
        self.fails(InvalidMargins(1), Margins, LADDER, [(0, 0), (0, False)])
        self.fails(InvalidStretch((0, True)), work, MARGINS, 0, True)
        self.fails(InvalidBox(((0, 1), (False, 1))), FLOOR.work, ((0, 1), (False, 1)))
        self.fails(InvalidCell((True, 0)), FLOOR.holders, 0, (True, 0))
        self.fails(InvalidLook((0, False, 0)), Run(BOOK).look_at, (0, False, 0))
        self.same(is_bar(History((0, 0)), Content([(0, 0), (0, 1)]), ((0, 0), (0, 1), True)), False)
        self.fails(InvalidStretches(1), History, (0, 1), (0, True))
        self.fails(InvalidPairs(1), Content, [(1, 0), (1, False)])
        self.same([(1, True) in Content([(1, 1)]), (True, 1) in Content([(1, 1)])], [False, False])

    def test_results_are_no_bools_where_numbers_are_told(self):
        history = History((1, 1))
        self.same([history.version(1, 0), history.version(1, 1), history.moment], [0, 1, 1])
        self.same([history.versions(1), history.stands(1, 0), history.stands(1, 1)], [[0, 1], (0, 1), (1, 2)])


class ListsAndTuples(Case):

    def test_a_tuple_passes_for_a_list(self):
        self.assertEqual(Content(((3, 1), (4, 0))), Content([(3, 1), (4, 0)]))
        self.assertEqual(Content.at(PAST, 1, (3, 4)), Content.at(PAST, 1, [3, 4]))

    def test_a_tuple_passes_for_a_list_of_levels_and_deeds(self):
        self.assertEqual(Ladder(4, (2,), ((0, 0), (1, 0))), LADDER)
        self.assertEqual(Margins(LADDER, ((0, 0), (0, 1))), MARGINS)
        self.same(Run(BOOK).do_all((("edit", 3, 4), ("begin", 0, 0))), [1, 0])
        self.assertEqual(Run(BOOK).content((0, 0, 0), (3, 9)), Content([(3, 0)]))

    def test_a_tuple_passes_for_a_list_of_states_deeds_and_lines(self):
        self.same(is_certificate(SYSTEM, "whole", tuple(SYSTEM.table())), True)
        loose = System(Book(MARGINS, order="any"), (1, 0, 0), 3, 4, edits=1)
        deeds = bad_run(loose, "whole")
        self.same(is_bad_run(loose.book, loose.look, "whole", tuple(deeds)), True)
        claim = {"claim": "ever", "book": text_of(loose.book), "look": loose.look, "wish": "whole"}
        self.same(is_paper(claim, tuple([line_of(deed) for deed in deeds])), True)
        self.same(is_paper(CLAIM, {key: tuple(table) for key, table in paper_for(CLAIM).items()}), True)
        self.same(Desk.from_log(BOOK, ("edit 3 4", "begin 0 0")).log(), ["edit 3 4", "begin 0 0"])
        self.assertEqual(Desk(BOOK).shown((0, 0, 0), (3,)), Content([(3, 0)]))

    def test_a_list_does_not_pass_for_a_tuple_of_states_looks_and_deeds(self):
        self.fails(InvalidLook([1, 0, 0]), System, BOOK, [1, 0, 0], 3, 3, edits=1)
        self.fails(InvalidState(list(SYSTEM.start())), SYSTEM.nexts, list(SYSTEM.start()))
        self.fails(InvalidText(1), read_book, [text_of(BOOK)])
        self.fails(InvalidCommand(["busy"]), Desk(BOOK).do, ["busy"])
        self.fails(InvalidLook([1, 0, 0]), freest, BOOK, "whole", [1, 0, 0], 3, 3)
        self.fails(InvalidDeed(["end", 0]), line_of, ["end", 0])
        self.same(is_bad_run(BOOK, (1, 0, 0), "whole", [["edit", 3, 4]]), False)
        claim = {"claim": "ever", "book": text_of(BOOK), "look": [1, 0, 0], "wish": "whole"}
        self.fails(InvalidClaim(claim), is_true, claim)

    def test_a_list_does_not_pass_for_a_tuple_of_the_later_files(self):
        self.fails(InvalidEdges(1), Ladder, 4, [2], [(0, 0), [1, 0]])
        self.fails(InvalidMargins(0), Margins, LADDER, [[0, 0], (0, 1)])
        self.fails(InvalidMargins(None), Margins.by_steps, LADDER, [0, 0], [(0, 0)])
        self.fails(InvalidBox([(0, 1), (0, 1)]), FLOOR.work, [(0, 1), (0, 1)])
        self.fails(InvalidCell([0, 1]), FLOOR.holders, 0, [0, 1])
        self.fails(InvalidLook([0, 0, 0]), Run(BOOK).bar, [0, 0, 0])
        self.fails(InvalidDeed(["edit", 3, 4]), Run(BOOK).do, ["edit", 3, 4])

    def test_a_list_does_not_pass_for_a_tuple(self):
        self.fails(InvalidStretches(0), History, [3, 4])
        self.fails(InvalidPairs(0), Content, [[3, 1]])
        self.same([3, 1] in Content([(3, 1)]), False)


class Sequence(Case):

    def test_parameters_are_looked_at_in_their_sequence(self):
        self.fails(InvalidCell(None), PAST.version, None, "no moment")
        self.fails(InvalidEdit("no number"), PAST.touches, "no number", None)
        self.fails(InvalidCell("no cell"), PAST.stands, "no cell", "no version")
        self.fails(InvalidMoment(4), Content.at, PAST, 4, "no list")

    def test_parameters_of_the_later_files_are_looked_at_in_their_sequence(self):
        self.fails(InvalidSide(0), Ladder, 0, None, "edges")
        self.fails(InvalidFactors(None), Ladder, 4, None, "edges")
        self.fails(InvalidLevel(2), LADDER.holds, 2, None, None)
        self.fails(InvalidTile(None), LADDER.holds, 1, None, None)
        self.fails(InvalidLevel(2), MARGINS.marks, 2, None, 4, 3)
        self.fails(InvalidTile(None), MARGINS.marks, 1, None, 4, 3)
        self.fails(InvalidLevel(2), work_at, MARGINS, 2, 4, 3)
        self.fails(InvalidLevel(2), FLOOR.marked, 2, None)
        self.fails(InvalidCount(0), FLOOR.mean_work, 0, None)
        self.fails(InvalidLevel(2), Run(BOOK).version, 2, None, None)
        self.fails(InvalidLook(None), Run(BOOK).content, None, None)
        self.fails(InvalidMoment(4), is_of, PAST, Content([(3, 3)]), 4)

    def test_errors_of_several_parameters_come_last(self):
        self.fails(TooMany("levels", 4), Ladder, 4, [2] * 4, "edges")
        self.fails(InvalidFactors(4), Ladder, 4, [2] * 4 + [9])
        self.fails(WrongVersion(3, 3), is_bar, PAST, Content([(3, 3)]), None)
        self.fails(InvalidLevel(0), LADDER.parts, 0, None)
        self.fails(InvalidTile(None), Run(BOOK).begin, 1, None)

    def test_parameters_of_the_last_files_are_looked_at_in_their_sequence(self):
        self.fails(InvalidLook(None), System, BOOK, None, None, None, edits=None)
        self.fails(InvalidCell(None), System, BOOK, (1, 0, 0), None, "z", edits=None)
        self.fails(InvalidCell("z"), System, BOOK, (1, 0, 0), 99, "z", edits=None)
        self.fails(InvalidEdits(None), System, BOOK, (1, 0, 0), 99, 99, edits=None)
        self.fails(NotHeld(1, 0, 99), System, BOOK, (1, 0, 0), 99, 98, edits=1)
        self.fails(InvalidState(None), SYSTEM.goes_wrong, None, None)
        self.fails(InvalidLook(None), is_bad_run, BOOK, None, None, None)
        self.fails(InvalidLevel(None), place_of, BOOK, None, None)

    def test_wishes_are_looked_at_behind_all_other_parameters(self):
        for call in (keeps, first_fault, kinds):
            self.fails(InvalidLevel(None), call, BOOK, None, None, None)
            self.fails(InvalidCount(None), call, BOOK, None, 0, None)
            self.fails(InvalidWish(None), call, BOOK, None, 0, 2)
        for call in (is_safe, freest, needless, mends):
            self.fails(InvalidLook(None), call, BOOK, None, None, None, None)
            self.fails(InvalidCell("z"), call, BOOK, None, (1, 0, 0), 99, "z")
            self.fails(InvalidWish(None), call, BOOK, None, (1, 0, 0), 99, 99)
            self.fails(NotHeld(1, 0, 99), call, BOOK, "fresh", (1, 0, 0), 99, 98)
            self.fails(InvalidWish("fresh"), call, BOOK, "fresh", (1, 0, 0), 3, 4)

    def test_the_sequence_by_name_does_not_count(self):
        self.fails(InvalidLevel(2), LADDER.holds, cell=None, tile=None, level=2)
        self.fails(InvalidCare("source", None), lambda: Book(MARGINS, wait=None, source=None))
        self.fails(InvalidCell(None), PAST.version, moment="no moment", cell=None)
        self.fails(InvalidMoment(4), Content.at, cells="no list", moment=4, history=PAST)
        self.fails(InvalidLook(None), System, edits=None, z=None, x=None, look=None, book=BOOK)
        self.fails(InvalidLevel(None), keeps, wish=None, width=None, level=None, book=BOOK)

    def test_the_first_wrong_one_of_a_list_decides(self):
        self.fails(InvalidCell("a"), Content.at, PAST, 0, [1, "a", None])
        self.fails(InvalidCell("a"), Content().only, 1, "a", None)
        self.fails(InvalidCell(None), History.of_cells, None, "a")


class Staying(Case):

    def test_nothing_changes_when_a_call_raises_an_error(self):
        history, content = History((3, 4), (0, 0)), Content([(3, 1), (4, 0)])
        calls = [
            lambda: history[9], lambda: history.until(9), lambda: history + (4, 3), lambda: history.touches(1, None),
            lambda: history.version(3, 9), lambda: history.versions("3"), lambda: history.stands(3, 2),
            lambda: content.versions(None), lambda: content.only(3, None), lambda: Content.at(history, 9, [3]),
        ]
        for call in calls:
            with self.assertRaises((StripError, LookupError)):
                call()
        self.assertEqual(repr(history), "History((3, 4), (0, 0))")
        self.assertEqual(repr(content), "Content([(3, 1), (4, 0)])")

    def test_nothing_changes_in_the_objects_of_the_later_files(self):
        run = Run(BOOK)
        run.edit(3, 4)
        calls = [
            lambda: LADDER * 0, lambda: LADDER.cut(3), lambda: LADDER.with_edge(0, (9, 9)), lambda: MARGINS.pair(2),
            lambda: MARGINS | Margins(LADDER * 2), lambda: MARGINS.parting(Margins(LADDER * 2)),
            lambda: FLOOR.work(None), lambda: BOOK.with_care("order", "none"), lambda: run.edit(4, 3),
            lambda: run.begin(1, 0), lambda: run.end(0), lambda: run.look_at((0, 0, 0)), lambda: run.do(None),
            lambda: run.do_all([("begin", 0, 0), None]), lambda: run.version(0, 0, 9), lambda: run.edit(0, 9999),
        ]
        for call in calls:
            with self.assertRaises((StripError, MissingError, StateError, LimitError)):
                call()
        self.assertEqual([LADDER, MARGINS], [Ladder(4, [2], [(0, 0), (1, 0)]), Margins(LADDER, [(0, 0), (0, 1)])])
        self.assertEqual([FLOOR, BOOK], [Floor(MARGINS, MARGINS), Book(MARGINS)])
        self.same([run.deeds(), run.marked(0), run.busy()], [[("edit", 3, 4)], [0, 1], []])

    def test_nothing_changes_in_the_objects_of_the_last_files(self):
        desk, system = Desk(BOOK), System(BOOK, (1, 0, 0), 3, 3, edits=1)
        desk.do("edit 3 4")
        table = system.table()
        calls = [
            lambda: system.bundles(3), lambda: system.nexts(None), lambda: system.goes_wrong(system.start(), "none"),
            lambda: never(system, "none"), lambda: list(places(BOOK, 2)), lambda: keeps(BOOK, "none", 0),
            lambda: mends(BOOK, "whole", (1, 0, 0), 99, 3), lambda: read_book("side 4\n"), lambda: read_deed("undo"),
            lambda: paper_for({**CLAIM, "claim": "breaks"}), lambda: desk.do("begin 1 0"),
            lambda: desk.do_all("begin 0 0", "end 1"), lambda: desk.attempt("undo", "undo"),
            lambda: desk.shown((0, 0, 0), None), lambda: Desk.from_log(BOOK, ["rest"]),
        ]
        for call in calls:
            with self.assertRaises((StripError, MissingError, StateError, LimitError)):
                call()
        self.same([system.table() == table, desk.log(), desk.do("marked 0")], [True, ["edit 3 4"], "0 1"])
        self.same(is_paper(CLAIM, paper_for(CLAIM)), True)

    def test_a_repeated_call_of_the_last_files_returns_an_equal_result(self):
        loose = System(Book(MARGINS, order="any"), (1, 0, 0), 3, 4, edits=1)
        for call in (lambda: bad_run(loose, "whole"), loose.table, lambda: loose.nexts(loose.start()),
                     lambda: wrong_states(loose, "whole"), lambda: paper_for(CLAIM), lambda: ends(BOOK, 1),
                     lambda: list(places(BOOK, 1)), lambda: kinds(BOOK, "whole", 0), lambda: text_of(BOOK),
                     lambda: freest(BOOK, "fresh", (0, 0, 0), 1, 1), lambda: mends(BOOK, "fresh", (0, 0, 0), 1, 1),
                     lambda: Desk(BOOK).do_all("edit 3 4", "busy", "undo")):
            self.assertEqual(call(), call())

    def test_the_order_of_the_keys_of_a_passed_dict_has_no_effect(self):
        turned = {key: CLAIM[key] for key in reversed(list(CLAIM))}
        self.same(is_paper(turned, paper_for(CLAIM)), True)

    def test_a_repeated_call_of_the_later_files_returns_an_equal_result(self):
        run = Run(Book(MARGINS, wait=False, order="any"))
        run.do_all([("edit", 3, 4), ("begin", 0, 0), ("end", 0)])
        for call in (lambda: run.bar((0, 0, 1)), lambda: run.look_at((0, 0, 1)), lambda: run.content((0, 0, 1), [3, 4]),
                     lambda: MARGINS.parting(Margins(LADDER, [(1, 0), (0, 2)])), lambda: LADDER.wholes(0, 1),
                     lambda: least_work(MARGINS, 5), lambda: moments_of(PAST, Content([(3, 1)]))):
            self.assertEqual(call(), call())

    def test_a_repeated_call_returns_an_equal_result(self):
        content = Content([(4, 2), (3, 1)])
        for _ in range(2):
            self.same([PAST.versions(4), PAST.stands(4, 1), content.pairs(), content.cells()],
                      [[0, 1, 3], (1, 3), [(3, 1), (4, 2)], [3, 4]])

    def test_what_is_passed_stays_as_it_was(self):
        cells, pairs = [4, 3, 4], [(4, 2), (3, 1), (4, 2)]
        Content.at(PAST, 2, cells)
        Content(pairs)
        self.same([cells, pairs], [[4, 3, 4], [(4, 2), (3, 1), (4, 2)]])


if __name__ == "__main__":
    unittest.main()
