"""Moments of contents, and bars."""

import unittest
from itertools import combinations, product

from onceseen.contents import Content
from onceseen.errors import InvalidMoment, WrongVersion
from onceseen.history import History
from onceseen.moments import (bar_of, bar_of_pieces, is_bar, is_of, moments_of, moments_of_pieces, pieces_of,
                              pieces_within)
from tests.checking import FAR, NO_INTEGERS, Case, small_histories

PAST = History((3, 4), (0, 3), (4, 9))
ONE = Content([(3, 1), (4, 1)])
NONE = Content([(3, 1), (4, 3)])


def plain_moments(history, content):
    """The moments of the content by the words: those at which each version is the one of its cell."""
    return [moment for moment in range(len(history) + 1)
            if all(history.version(cell, moment) == version for cell, version in content.pairs())]


def plain_bars(history, content):
    """All bars by the words."""
    return [(ended, begun, edit) for ended, begun in product(content.pairs(), repeat=2)
            for edit in range(1, len(history) + 1)
            if history.touches(edit, ended[0]) and ended[1] < edit <= begun[1]]


def small_contents(history):
    """All contents of up to three pairs of the cells from -1 to 1 with versions of theirs."""
    pairs = [(cell, version) for cell in (-1, 0, 1) for version in history.versions(cell)]
    return [Content(chosen) for many in range(4) for chosen in combinations(pairs, many)]


SMALL = [(history, content) for history in small_histories()[::5] for content in small_contents(history)]


class MomentsOf(Case):

    def test_the_printed_values(self):
        self.same([moments_of(PAST, ONE), moments_of(PAST, NONE)], [(1, 2), None])

    def test_without_pairs_all_moments(self):
        self.same(moments_of(PAST, Content()), (0, 4))
        self.same(moments_of(History(), Content()), (0, 1))

    def test_without_edits(self):
        self.same(moments_of(History(), Content([(5, 0), (-FAR, 0)])), (0, 1))

    def test_moment_0_and_the_last_one(self):
        self.same(moments_of(PAST, Content([(3, 0)])), (0, 1))
        self.same(moments_of(PAST, Content([(3, 2), (4, 3), (9, 3)])), (3, 4))
        self.same(moments_of(PAST, Content([(3, 2)])), (2, 4))
        self.same(moments_of(PAST, Content([(10, 0)])), (0, 4))

    def test_one_cell_with_several_versions(self):
        self.same(moments_of(PAST, Content([(4, 0), (4, 1)])), None)
        self.same(moments_of(PAST, Content([(4, 0), (4, 3)])), None)

    def test_cells_that_are_far(self):
        history = History((FAR, FAR), (-FAR, FAR - 1))
        self.same(moments_of(history, Content([(FAR, 1), (-FAR, 0)])), (1, 2))
        self.same(moments_of(history, Content([(FAR, 0), (-FAR, 2)])), None)

    def test_small_ones_by_the_words(self):
        for history, content in SMALL:
            moments = plain_moments(history, content)
            told = (moments[0], moments[-1] + 1) if moments else None
            self.same(moments_of(history, content), told)
            if told:
                self.assertEqual(moments, list(range(*told)))

    def test_by_name(self):
        self.same(moments_of(content=ONE, history=PAST), (1, 2))
        self.takes(moments_of, "history", "content")


class IsOf(Case):

    def test_each_moment(self):
        self.same([is_of(PAST, ONE, moment) for moment in range(4)], [False, True, False, False])
        self.same([is_of(PAST, NONE, moment) for moment in range(4)], [False] * 4)
        self.same([is_of(PAST, Content(), moment) for moment in range(4)], [True] * 4)
        self.same(is_of(History(), Content([(1, 0)]), 0), True)

    def test_small_ones_by_the_words(self):
        for history, content in SMALL:
            told = [moment for moment in range(len(history) + 1) if is_of(history, content, moment)]
            self.assertEqual(told, plain_moments(history, content))

    def test_no_moment_comes_ahead_of_wrong_versions(self):
        for value in NO_INTEGERS + [-1, 4, FAR]:
            self.fails(InvalidMoment(value), is_of, PAST, ONE, value)
            self.fails(InvalidMoment(value), is_of, PAST, Content([(3, 3)]), value)
        self.fails(InvalidMoment(1), is_of, History(), Content(), 1)

    def test_by_name(self):
        self.same(is_of(moment=1, content=ONE, history=PAST), True)
        self.takes(is_of, "history", "content", "moment")


class BarOf(Case):

    def test_the_printed_value_is_the_only_bar(self):
        self.same(bar_of(PAST, NONE), ((3, 1), (4, 3), 2))
        self.same(plain_bars(PAST, NONE), [((3, 1), (4, 3), 2)])

    def test_none_if_it_is_of_one_moment(self):
        for content in (ONE, Content(), Content([(3, 0), (4, 0)]), Content([(3, 2), (4, 3)])):
            self.same(bar_of(PAST, content), None)
        self.same(bar_of(History(), Content([(3, 0)])), None)

    def test_one_cell_with_several_versions(self):
        self.assertIn(bar_of(PAST, Content([(4, 0), (4, 1)])), [((4, 0), (4, 1), 1)])
        self.assertIn(bar_of(PAST, Content([(4, 0), (4, 3)])), [((4, 0), (4, 3), 1), ((4, 0), (4, 3), 3)])

    def test_small_ones_by_the_words(self):
        for history, content in SMALL:
            bars = plain_bars(history, content)
            self.assertEqual(bars == [], moments_of(history, content) is not None)
            bar = bar_of(history, content)
            if bars:
                self.assertTrue(any(alike == bar for alike in bars))
                self.same(is_bar(history, content, bar), True)
            else:
                self.same(bar, None)

    def test_by_name(self):
        self.same(bar_of(content=NONE, history=PAST), ((3, 1), (4, 3), 2))
        self.takes(bar_of, "history", "content")


class IsBar(Case):

    def test_small_ones_by_the_words(self):
        for history, content in SMALL[::7]:
            bars = plain_bars(history, content)
            pairs = content.pairs() + [(0, 0), (1, 1), (2, 0)]
            for ended, begun in product(pairs, repeat=2):
                for edit in range(-1, len(history) + 2):
                    self.same(is_bar(history, content, (ended, begun, edit)), (ended, begun, edit) in bars)

    def test_any_value(self):
        bar = ((3, 1), (4, 3), 2)
        self.same(is_bar(PAST, NONE, bar), True)
        wrong = NO_INTEGERS + [
            list(bar), bar[:2], bar + (2,), (bar,), ([3, 1], (4, 3), 2), ((3, 1), [4, 3], 2), ((3, 1), (4, 3), 2, None),
            ((3, 1), (4, 3), "2"), ((3, 1), (4, 3), None), ((3, 1), (4, 3), [2]), ((3, 1), (4, 3), 1),
            ((3, 1), (4, 3), 3), ((3, 1), (4, 3), 0), ((3, 1), (4, 3), 4), ((3, 1), (4, 3), -2), ((4, 3), (3, 1), 2),
            ((3, True), (4, 3), 2), ((3, 0), (4, 3), 2), ((3, 2), (4, 3), 2), ((3, 1), (3, 2), 2), (None, (4, 3), 2),
            ((3, 1), None, 2), (3, 4, 2), "abc", ({}, {}, {}), (NONE, PAST, 2), {1: 2, 3: 4, 5: 6}, ((), (), 2),
        ]
        for value in wrong:
            self.same(is_bar(PAST, NONE, value), False)

    def test_true_is_no_number_of_an_edit(self):
        history, content = History((0, 0)), Content([(0, 0), (0, 1)])
        self.same(is_bar(history, content, ((0, 0), (0, 1), 1)), True)
        for value in [((0, 0), (0, 1), True), ((0, False), (0, 1), 1), ((False, 0), (0, 1), 1), ((0, 0), (0, True), 1)]:
            self.same(is_bar(history, content, value), False)

    def test_the_edit_is_not_greater_than_the_begun_version(self):
        history, content = History((0, 0), (1, 1), (0, 0)), Content([(0, 1), (1, 2)])
        self.same(is_bar(history, content, ((0, 1), (1, 2), 3)), False)
        self.same(is_bar(history, content, ((0, 1), (1, 2), 1)), False)
        self.same(is_bar(history, content, ((0, 1), (1, 2), 2)), False)

    def test_by_name(self):
        self.same(is_bar(value=((3, 1), (4, 3), 2), content=NONE, history=PAST), True)
        self.takes(is_bar, "history", "content", "value")


class WrongVersions(Case):

    def test_the_first_pair_that_is_none_decides(self):
        calls = [moments_of, bar_of, lambda past, content: is_of(past, content, 0),
                 lambda past, content: is_bar(past, content, None),
                 lambda past, content: is_bar(past, content, ((4, 0), (3, 3), 1))]
        for call in calls:
            self.fails(WrongVersion(3, 3), call, PAST, Content([(3, 3)]))
            self.fails(WrongVersion(3, 3), call, PAST, Content([(9, 2), (4, 0), (3, 7), (3, 3), (3, 1)]))
            self.fails(WrongVersion(-FAR, 2), call, PAST, Content([(4, 2), (-FAR, 2), (4, 0)]))
            self.fails(WrongVersion(0, 1), call, History(), Content([(0, 1), (0, 0)]))

    def test_nothing_changes(self):
        history, content = History((3, 4)), Content([(3, 1), (4, 7)])
        for call in (moments_of, bar_of):
            self.fails(WrongVersion(4, 7), call, history, content)
        self.assertEqual([history, content], [History((3, 4)), Content([(3, 1), (4, 7)])])


class Pieces(Case):
    """Pieces tell the same as the contents that they stand for."""

    @staticmethod
    def content(pieces):
        return Content([(cell, version) for first, last, version in pieces for cell in range(first, last + 1)])

    def test_pieces_of_the_strip(self):
        for history in small_histories():
            stretches = [history[number] for number in range(1, len(history) + 1)]
            for first, last in ((-2, 2), (-1, 0), (0, 0), (1, 3)):
                pieces = pieces_of(stretches, first, last)
                cells = list(range(first, last + 1))
                self.assertEqual(self.content(pieces), Content.at(history, history.moment, cells))
                self.assertEqual([begin for begin, _, _ in pieces[1:]], [end + 1 for _, end, _ in pieces[:-1]])
                self.assertTrue(all(begin <= end for begin, end, _ in pieces))
                self.assertEqual((pieces[0][0], pieces[-1][1]), (first, last))

    def test_pieces_of_far_cells(self):
        self.same(pieces_of([(0, FAR), (FAR, FAR)], -FAR, 2 * FAR),
                  [(-FAR, -1, 0), (0, FAR - 1, 1), (FAR, FAR, 2), (FAR + 1, 2 * FAR, 0)])

    def test_within(self):
        pieces = [(-3, -1, 0), (0, 4, 2), (5, 5, 1)]
        self.same(pieces_within(pieces, -1, 4), [(-1, -1, 0), (0, 4, 2)])
        self.same(pieces_within(pieces, 2, 3), [(2, 3, 2)])
        self.same(pieces_within(pieces, 4, 9), [(4, 4, 2), (5, 5, 1)])
        self.same(pieces_within(pieces, -1, 0), [(-1, -1, 0), (0, 0, 2)])
        self.same(pieces_within(pieces, 5, 5), [(5, 5, 1)])

    def test_moments_and_bars(self):
        for history in small_histories()[::3]:
            stretches = [history[number] for number in range(1, len(history) + 1)]
            spans = [((-2, 0), (0, 2)), ((-1, -1), (1, 1)), ((0, 0), (0, 1)), ((-2, -2), (-1, -1))]
            for left, right, (one, other) in product(range(len(stretches) + 1), range(len(stretches) + 1), spans):
                pieces = pieces_of(stretches[:left], *one) + pieces_of(stretches[:right], *other)
                content = self.content(pieces)
                self.same(moments_of_pieces(stretches, pieces), moments_of(history, content))
                bar = bar_of_pieces(stretches, pieces)
                self.same(bar is None or is_bar(history, content, bar), True)
                self.same(bar is None, bar_of(history, content) is None)


if __name__ == "__main__":
    unittest.main()
