"""What holds for all calls: how arguments are passed, what is copied, which error comes first."""

import unittest

from onceseen.contents import Content
from onceseen.errors import InvalidCell, InvalidEdit, InvalidMoment, InvalidPairs, InvalidStretches, StripError
from onceseen.history import History
from tests.checking import Case

PAST = History((3, 4), (0, 3), (4, 9))


class Numbers(Case):

    def test_true_is_not_1_and_false_is_not_0(self):
        self.fails(InvalidCell(True), PAST.version, True)
        self.fails(InvalidMoment(False), PAST.until, False)
        self.fails(InvalidMoment(True), PAST.version, 3, True)
        self.fails(InvalidEdit(True), PAST.touches, True, 3)
        self.fails(InvalidCell(False), Content.at, PAST, 1, [False])
        self.fails(InvalidCell(True), History.of_cells, 1, True)

    def test_nor_inside_other_values(self):
        self.fails(InvalidStretches(1), History, (0, 1), (0, True))
        self.fails(InvalidPairs(1), Content, [(1, 0), (1, False)])
        self.same([(1, True) in Content([(1, 1)]), (True, 1) in Content([(1, 1)])], [False, False])

    def test_results_are_no_bools_where_numbers_are_told(self):
        history = History((1, 1))
        self.same([history.version(1, 0), history.version(1, 1), history.moment], [0, 1, 1])
        self.same([history.versions(1), history.stands(1, 0), history.stands(1, 1)], [[0, 1], (0, 1), (1, 2)])


class ListsAndTuples(Case):

    def test_a_tuple_passes_for_a_list(self):
        self.assertEqual(Content(((3, 1), (4, 0))), Content([(3, 1), (4, 0)]))
        self.assertEqual(Content.at(PAST, 1, (3, 4)), Content.at(PAST, 1, [3, 4]))

    def test_a_list_does_not_pass_for_a_tuple(self):
        self.fails(InvalidStretches(0), History, [3, 4])
        self.fails(InvalidPairs(0), Content, [[3, 1]])
        self.same([3, 1] in Content([(3, 1)]), False)


class Sequence(Case):

    def test_parameters_are_looked_at_in_their_sequence(self):
        self.fails(InvalidCell(None), PAST.version, None, "no moment")
        self.fails(InvalidEdit("no number"), PAST.touches, "no number", None)
        self.fails(InvalidCell("no cell"), PAST.stands, "no cell", "no version")
        self.fails(InvalidMoment(4), Content.at, PAST, 4, "no list")

    def test_the_sequence_by_name_does_not_count(self):
        self.fails(InvalidCell(None), PAST.version, moment="no moment", cell=None)
        self.fails(InvalidMoment(4), Content.at, cells="no list", moment=4, history=PAST)

    def test_the_first_wrong_one_of_a_list_decides(self):
        self.fails(InvalidCell("a"), Content.at, PAST, 0, [1, "a", None])
        self.fails(InvalidCell("a"), Content().only, 1, "a", None)
        self.fails(InvalidCell(None), History.of_cells, None, "a")


class Staying(Case):

    def test_nothing_changes_when_a_call_raises_an_error(self):
        history, content = History((3, 4), (0, 0)), Content([(3, 1), (4, 0)])
        calls = [
            lambda: history[9], lambda: history.until(9), lambda: history + (4, 3), lambda: history.touches(1, None),
            lambda: history.version(3, 9), lambda: history.versions("3"), lambda: history.stands(3, 2),
            lambda: content.versions(None), lambda: content.only(3, None), lambda: Content.at(history, 9, [3]),
        ]
        for call in calls:
            with self.assertRaises((StripError, LookupError)):
                call()
        self.assertEqual(repr(history), "History((3, 4), (0, 0))")
        self.assertEqual(repr(content), "Content([(3, 1), (4, 0)])")

    def test_a_repeated_call_returns_an_equal_result(self):
        content = Content([(4, 2), (3, 1)])
        for _ in range(2):
            self.same([PAST.versions(4), PAST.stands(4, 1), content.pairs(), content.cells()],
                      [[0, 1, 3], (1, 3), [(3, 1), (4, 2)], [3, 4]])

    def test_what_is_passed_stays_as_it_was(self):
        cells, pairs = [4, 3, 4], [(4, 2), (3, 1), (4, 2)]
        Content.at(PAST, 2, cells)
        Content(pairs)
        self.same([cells, pairs], [[4, 3, 4], [(4, 2), (3, 1), (4, 2)]])


if __name__ == "__main__":
    unittest.main()
