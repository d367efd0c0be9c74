"""Runs: edits, begins, ends and looks, one by one."""

import inspect
import unittest
from itertools import product

from onceseen.books import Book
from onceseen.contents import Content
from onceseen.errors import (AtWork, InvalidCell, InvalidHand, InvalidLevel, InvalidLook, InvalidStretch, InvalidTile,
                             MustWait, NoHand, NotHeld, NotMarked, OutOfOrder, StateError, TooMany)
from onceseen.history import History
from onceseen.ladders import Ladder
from onceseen.margins import Margins
from onceseen.moments import is_bar
from onceseen.runs import Run
from tests.checking import FAR, NO_ENDS, NO_INTEGERS, NO_LISTS, Case, no_levels, no_looks

PLAIN = Margins(Ladder(4, [2]))
TALL = Margins(Ladder(2, [2, 2], [(0, 0), (1, 0), (0, 1)]))
LOOSE = Book(PLAIN, order="any", wait=False)
STRICT = Book(PLAIN)


def after(book, *deeds):
    """A run of the book behind these deeds."""
    run = Run(book)
    run.do_all(deeds)
    return run


def told(run):
    """All that a run tells, for tiles and cells near by."""
    levels = run.book.ladder.levels
    places = list(product(range(levels), range(-3, 4)))
    looks = [(level, tile, tile + more) for level, tile in places for more in (0, 1) if level < 2 or more == 0]
    held = {place: range(run.book.ladder.held(*place)[0], run.book.ladder.held(*place)[1] + 1) for place in places}
    return [
        run.book, run.history, run.at_rest, len(run), [run.marked(level) for level in range(levels)], run.busy(),
        [[run.version(*place, cell) for cell in held[place]] for place in places],
        [run.content(look, list(range(-20, 20))) for look in looks], [run.bar(look) for look in looks],
        [run.lets(*place) for place in places], run.deeds(),
    ]


class Beginning(Case):

    def test_at_first(self):
        run = Run(LOOSE)
        self.assertEqual([run.book, run.history], [LOOSE, History()])
        self.same([run.at_rest, len(run), run.busy(), run.deeds()], [True, 0, [], []])
        self.same([run.marked(0), run.marked(1), run.lets(0, 0)], [[], [], False])
        self.same([run.version(0, 0, 3), run.version(1, -FAR, -8 * FAR), run.look_at((1, 0, 0))], [0, 0, (0, 1)])
        self.same(run.bar((1, 0, 1)), None)

    def test_the_printed_values(self):
        torn = Run(LOOSE)
        self.same([torn.edit(3, 4), torn.marked(0), torn.begin(0, 0), torn.end(0), torn.begin(1, 0), torn.end(0),
                   torn.look_at((1, 0, 0))], [1, [0, 1], 0, True, 0, True, None])
        self.same([torn.version(1, 0, 4), torn.marked(0), torn.marked(1), torn.at_rest], [0, [1], [], False])
        bar = torn.bar((1, 0, 0))
        cells = [(cell, 1 if cell == 3 else 0) for cell in range(8)]
        self.same(is_bar(History((3, 4)), Content(cells), bar), True)
        self.same(bar, ((4, 0), (3, 1), 1))


class Edits(Case):

    def test_moments_and_marks(self):
        run = Run(STRICT)
        self.same([run.edit(3, 4), run.edit(9), run.edit(-1, None), run.edit(first=0, last=0)], [1, 2, 3, 4])
        self.same([run.marked(0), run.marked(1)], [[-1, 0, 1, 2], [-1, 0, 1]])
        self.assertEqual(run.history, History((3, 4), (9, 9), (-1, -1), (0, 0)))
        self.same(run.deeds(), [("edit", 3, 4), ("edit", 9, 9), ("edit", -1, -1), ("edit", 0, 0)])
        self.same([len(run), run.at_rest], [4, False])

    def test_marks_by_margins(self):
        run = Run(Book(Margins(Ladder(4, [2]), [(1, 4), (0, 1)])))
        run.edit(3, 3)
        self.same([run.marked(0), run.marked(1)], [[0, 1], [0]])
        run.edit(7)
        self.same([run.marked(0), run.marked(1)], [[0, 1, 2], [0, 1]])

    def test_far_edits_of_great_tiles(self):
        run = Run(Book(Margins(Ladder(FAR, [2], [(1, FAR), (0, 0)])), wait=False))
        self.same(run.edit(-FAR, 5 * FAR), 1)
        self.same([run.marked(0), run.marked(1)], [[-2, -1, 0, 1, 2, 3, 4, 5], [-1, 0, 1, 2]])
        self.same([run.begin(0, 0), run.end(0)], [0, True])
        self.same([run.version(0, 0, -1), run.version(0, 0, 2 * FAR - 1)], [1, 1])
        self.same(run.look_at((0, 0, 0)), (1, 2))
        self.same(run.edit(FAR + 5, FAR + 5), 2)
        self.same([run.look_at((0, 0, 0)), run.look_at((0, -9, -9))], [(1, 2), (0, 3)])
        self.same([run.begin(0, 1), run.end(0), run.look_at((0, 0, 1))], [0, True, None])
        first, begun, edit = run.bar((0, 0, 1))
        self.same((first, begun[1], edit), ((FAR + 5, 1), 2, 2))

    def test_an_edit_may_mark_500_tiles(self):
        run = Run(Book(Margins(Ladder(1, [2]))))
        self.same(run.edit(0, 332), 1)
        self.same(len(run.marked(0)) + len(run.marked(1)), 500)
        self.fails(TooMany("marks", 500), run.edit, 0, 333)
        self.same(len(run), 1)
        single = Run(Book(Margins(Ladder(1), [(1, 0)])))
        self.same(single.edit(-250, 248), 1)
        self.fails(TooMany("marks", 500), single.edit, -250, 249)
        self.fails(TooMany("marks", 500), single.edit, -FAR, FAR)
        self.assertEqual(single.history, History((-250, 248)))
        great = Run(Book(Margins(Ladder(FAR))))
        self.same(great.edit(0, 500 * FAR - 1), 1)
        self.fails(TooMany("marks", 500), great.edit, 0, 500 * FAR)

    def test_many_edits_may_mark_more(self):
        run = Run(Book(Margins(Ladder(1))))
        for number in range(3):
            run.edit(500 * number, 500 * number + 499)
        self.same(len(run.marked(0)), 1500)
        run.undo()
        self.same(len(run.marked(0)), 1000)

    def test_no_stretch(self):
        run = after(STRICT, ("edit", 3, 4))
        kept = told(run)
        for first, last in NO_ENDS:
            if last is not None:
                self.fails(InvalidStretch((first, last)), run.edit, first, last)
        for value in NO_INTEGERS:
            self.fails(InvalidStretch((value, value)), run.edit, value)
            self.fails(InvalidStretch((value, value)), run.edit, value, None)
            if value is not None:
                self.fails(InvalidStretch((3, value)), run.edit, 3, value)
        self.assertEqual(told(run), kept)


class Begins(Case):

    def test_hands(self):
        run = after(Book(PLAIN, hands=2), ("edit", 0, 15))
        self.same([run.begin(0, 0), run.begin(0, 1), run.busy()], [0, 1, [(0, 0, 0), (1, 0, 1)]])
        self.same([run.end(0), run.busy(), run.begin(0, 3), run.busy()],
                  [True, [(1, 0, 1)], 0, [(0, 0, 3), (1, 0, 1)]])
        self.same([run.end(1), run.begin(tile=2, level=0), run.end(hand=0)], [True, 1, True])

    def test_one_hand(self):
        run = after(STRICT, ("edit", 3, 4), ("begin", 0, 0))
        self.fails(NoHand(), run.begin, 0, 1)
        self.same([run.lets(0, 1), run.end(0), run.lets(0, 1)], [False, True, True])

    def test_not_marked(self):
        run = after(STRICT, ("edit", 3, 4))
        self.fails(NotMarked(0, 2), run.begin, 0, 2)
        self.fails(NotMarked(1, -FAR), run.begin, 1, -FAR)
        self.same([run.lets(0, 2), run.lets(1, 1), run.lets(0, 0)], [False, False, True])

    def test_alone(self):
        run = after(Book(PLAIN, hands=2, unmark="end"), ("edit", 3, 4), ("begin", 0, 0))
        self.fails(AtWork(0, 0), run.begin, 0, 0)
        self.same([run.lets(0, 0), run.begin(0, 1)], [False, 1])
        again = after(Book(PLAIN, hands=2), ("edit", 3, 4), ("begin", 0, 0), ("edit", 0, 0))
        self.fails(AtWork(0, 0), again.begin, 0, 0)
        self.same(again.lets(0, 0), False)

    def test_two_drawings_of_one_tile(self):
        run = after(Book(PLAIN, hands=2, unmark="end", alone=False), ("edit", 3, 4), ("begin", 0, 0))
        self.same([run.lets(0, 0), run.begin(0, 0), run.busy()], [True, 1, [(0, 0, 0), (1, 0, 0)]])
        self.same([run.end(0), run.marked(0), run.end(1), run.marked(0)], [True, [1], True, [1]])
        other = after(Book(PLAIN, hands=2, alone=False), ("edit", 3, 4), ("begin", 0, 0))
        self.fails(NotMarked(0, 0), other.begin, 0, 0)
        self.same([other.edit(3), other.begin(0, 0), other.end(1), other.version(0, 0, 3)], [2, 1, True, 2])
        # The older drawing makes the tile go back.
        self.same([other.end(0), other.version(0, 0, 3)], [True, 1])

    def test_order(self):
        deeds = [("edit", 0, 0)]
        for order, lets in (("any", [True, True, True]), ("finest", [True, False, False]),
                            ("settled", [True, False, False])):
            run = after(Book(TALL, order=order), *deeds)
            self.same([run.lets(level, 0) for level in range(3)], lets)
        for order in ("finest", "settled"):
            run = after(Book(TALL, order=order, hands=2), *deeds)
            self.fails(OutOfOrder(0), run.begin, 1, 0)
            self.fails(OutOfOrder(0), run.begin, 2, 0)

    def test_order_by_drawings_under_way(self):
        run = after(Book(TALL, order="finest", hands=2), ("edit", 0, 0), ("begin", 0, 0))
        self.fails(OutOfOrder(1), run.begin, 2, 0)
        self.same([run.lets(1, 0), run.lets(2, 0)], [True, False])
        run = after(Book(TALL, hands=2), ("edit", 0, 0), ("begin", 0, 0))
        self.fails(OutOfOrder(0), run.begin, 1, 0)
        self.fails(OutOfOrder(0), run.begin, 2, 0)
        self.same([run.end(0), run.begin(1, 0)], [True, 0])
        self.fails(OutOfOrder(1), run.begin, 2, 0)
        self.same([run.end(0), run.lets(2, 0)], [True, True])

    def test_the_lowest_level_that_bars(self):
        # The marks of level 1 bar level 2, and so does a drawing of level 0, but by "settled" alone.
        deeds = [("edit", 0, 0), ("begin", 0, 0)]
        self.fails(OutOfOrder(0), after(Book(TALL, hands=2), *deeds).begin, 2, 0)
        self.fails(OutOfOrder(1), after(Book(TALL, hands=2, order="finest"), *deeds).begin, 2, 0)

    def test_marks_far_away_bar_too(self):
        run = after(STRICT, ("edit", 0, 0), ("begin", 0, 0), ("end", 0), ("edit", 8 * FAR, 8 * FAR))
        self.fails(OutOfOrder(0), run.begin, 1, 0)
        self.same([run.begin(0, 2 * FAR), run.end(0), run.begin(1, 0)], [0, True, 0])

    def test_which_error_comes_first(self):
        run = after(Book(TALL), ("edit", 0, 0), ("begin", 0, 0))
        self.fails(InvalidLevel(3), run.begin, 3, None)
        self.fails(InvalidTile(None), run.begin, 2, None)
        self.fails(NotMarked(2, 5), run.begin, 2, 5)
        self.fails(NotMarked(0, 0), run.begin, 0, 0)
        self.fails(NoHand(), run.begin, 2, 0)
        busy = after(Book(TALL, hands=2, unmark="end"), ("edit", 0, 1), ("begin", 0, 0))
        self.fails(AtWork(0, 0), busy.begin, 0, 0)
        upper = after(Book(TALL, hands=2, unmark="end"), ("edit", 0, 0), ("begin", 0, 0), ("end", 0), ("begin", 1, 0),
                      ("edit", 0, 0))
        self.fails(AtWork(1, 0), upper.begin, 1, 0)
        self.fails(OutOfOrder(0), upper.begin, 2, 0)

    def test_no_level_and_no_tile(self):
        run = after(STRICT, ("edit", 3, 4))
        for call in (run.begin, run.lets):
            self.fails_always(InvalidLevel, call, no_levels(2), 0)
            self.fails_always(InvalidLevel, call, no_levels(2), None)
            for value in NO_INTEGERS:
                self.fails(InvalidTile(value), call, 0, value)
        self.fails_always(InvalidLevel, run.marked, no_levels(2))
        self.same(len(run), 1)


class Reading(Case):

    def test_from_finer_tiles_or_from_the_strip(self):
        deeds = [("edit", 3, 4), ("begin", 0, 0), ("end", 0), ("begin", 1, 0), ("end", 0)]
        finer, drawing = after(LOOSE, *deeds), after(LOOSE.with_care("source", "drawing"), *deeds)
        self.same([finer.version(1, 0, cell) for cell in (2, 3, 4, 5)], [0, 1, 0, 0])
        self.same([drawing.version(1, 0, cell) for cell in (2, 3, 4, 5)], [0, 1, 1, 0])
        self.same([finer.look_at((1, 0, 0)), drawing.look_at((1, 0, 0))], [None, (1, 2)])

    def test_each_cell_from_its_owner_alone(self):
        # The tile 1 of level 0 holds the cell 3, too, but the owner of 3 is the tile 0.
        margins = Margins(Ladder(4, [2], [(1, 0), (0, 0)]))
        book = Book(margins, order="any", wait=False)
        run = after(book, ("edit", 3, 3), ("begin", 0, 1), ("end", 0), ("begin", 1, 0), ("end", 0))
        self.same([run.version(0, 1, 3), run.version(0, 0, 3), run.version(1, 0, 3)], [1, 0, 0])
        self.same(run.content((0, 0, 1), [3, 4, 9]).pairs(), [(3, 0), (3, 1), (4, 0)])

    def test_edges_are_read_from_owners_of_neighbours(self):
        run = after(Book(TALL, order="any"), ("edit", 3, 3), ("begin", 0, 1), ("end", 0), ("begin", 1, 1), ("end", 0))
        self.same([run.version(1, 1, 3), run.version(1, 1, 4)], [1, 0])
        self.same([run.begin(2, 0), run.end(0), run.version(2, 0, 3)], [0, True, 0])

    def test_it_reads_at_once_and_shows_at_the_end(self):
        run = after(LOOSE, ("edit", 3, 4), ("begin", 0, 0))
        self.same(run.version(0, 0, 3), 0)
        run.edit(3)
        self.same([run.end(0), run.version(0, 0, 3), run.marked(0)], [True, 1, [0, 1]])

    def test_parts_that_change_behind_the_begin_are_not_read(self):
        book = Book(PLAIN, order="any", hands=2, wait=False)
        run = after(book, ("edit", 3, 4), ("begin", 1, 0), ("begin", 0, 0), ("end", 1), ("end", 0))
        self.same([run.version(0, 0, 3), run.version(1, 0, 3)], [1, 0])

    def test_many_pieces(self):
        run = Run(Book(Margins(Ladder(FAR, [3])), wait=False))
        for number in range(60):
            run.edit(10 * number, 10 * number + (number % 4))
        run.edit(95, 205)
        self.same([run.begin(0, 0), run.end(0), run.begin(1, 0), run.end(0)], [0, True, 0, True])
        for cell in list(range(620)) + [FAR - 1]:
            self.same(run.version(1, 0, cell), run.history.version(cell))
        self.same(run.look_at((1, 0, 0)), (61, 62))


class Ends(Case):

    def test_no_hand_under_way(self):
        run = after(Book(PLAIN, hands=2), ("edit", 0, 7), ("begin", 0, 0), ("begin", 0, 1), ("end", 0))
        self.fails_always(InvalidHand, run.end, NO_INTEGERS + [0, 2, -1, FAR])
        self.same([run.end(1), run.at_rest], [True, False])
        self.fails(InvalidHand(1), run.end, 1)
        self.fails(InvalidHand(0), Run(STRICT).end, 0)

    def test_true_is_no_hand(self):
        run = after(Book(PLAIN, hands=2), ("edit", 0, 7), ("begin", 0, 0), ("begin", 0, 1))
        self.fails(InvalidHand(True), run.end, True)
        self.fails(InvalidHand(False), run.end, False)
        self.same(len(run.busy()), 2)

    def test_an_edit_behind_the_begin(self):
        deeds = [("edit", 3, 4), ("begin", 0, 0), ("edit", 0, 0)]
        results = {}
        for unmark, drop in product(("begin", "end"), (True, False)):
            run = after(Book(PLAIN, unmark=unmark, drop=drop), *deeds)
            results[unmark, drop] = [run.marked(0), run.end(0), run.marked(0), run.version(0, 0, 3), run.busy()]
        # With "end" the mark that has come in between goes, too; a drawing that is dropped takes none away.
        self.same(results["begin", False], [[0, 1], True, [0, 1], 1, []])
        self.same(results["begin", True], [[0, 1], False, [0, 1], 0, []])
        self.same(results["end", False], [[0, 1], True, [1], 1, []])
        self.same(results["end", True], [[0, 1], False, [0, 1], 0, []])

    def test_an_edit_of_another_tile_behind_the_begin(self):
        for unmark in ("begin", "end"):
            run = after(Book(PLAIN, unmark=unmark, drop=True), ("edit", 3, 4), ("begin", 0, 0), ("edit", 4, 4))
            self.same([run.end(0), run.version(0, 0, 3), run.marked(0)], [True, 1, [1]])

    def test_marked_by_a_margin_alone(self):
        book = Book(Margins(Ladder(4), [(1, 0)]), drop=True)
        run = after(book, ("edit", 3, 3), ("begin", 0, 0), ("edit", 4, 4))
        self.same([run.end(0), run.marked(0)], [False, [0, 1]])

    def test_an_edit_ahead_of_the_begin_does_not_drop(self):
        run = after(Book(PLAIN, drop=True), ("edit", 3, 4), ("edit", 3, 4), ("begin", 0, 0))
        self.same([run.end(0), run.version(0, 0, 3)], [True, 2])

    def test_of_two_drawings_the_one_that_an_edit_came_behind_is_dropped(self):
        book = Book(PLAIN, hands=2, alone=False, drop=True)
        run = after(book, ("edit", 3, 4), ("begin", 0, 0), ("edit", 3, 3), ("begin", 0, 0))
        self.same([run.end(0), run.version(0, 0, 3), run.end(1), run.version(0, 0, 3)], [False, 0, True, 2])


class Looks(Case):

    def test_one_tile_and_two_neighbours_at_each_level(self):
        run = after(Book(TALL, wait=False, order="any"), ("edit", 0, 7), ("begin", 0, 1), ("end", 0))
        self.same([run.look_at((0, 0, 0)), run.look_at((0, 1, 1)), run.look_at((0, 0, 1)), run.look_at((0, 1, 2))],
                  [(0, 1), (1, 2), None, None])
        self.same([run.begin(1, 0), run.end(0), run.look_at((1, 0, 0)), run.look_at((1, 0, 1)), run.look_at((1, 1, 2))],
                  [0, True, None, None, (0, 1)])
        self.same([run.begin(2, 0), run.end(0), run.look_at((2, 0, 0)), run.look_at((2, 1, 1))], [0, True, None, (0, 2)])
        self.fails(InvalidLook((2, 0, 1)), run.look_at, (2, 0, 1))

    def test_looks_that_must_wait(self):
        run = after(STRICT, ("edit", 3, 4))
        self.fails(MustWait(0, 0), run.look_at, (0, 0, 0))
        self.fails(MustWait(0, 0), run.look_at, (0, -1, 0))
        self.fails(MustWait(0, 0), run.look_at, (0, 0, 1))
        self.fails(MustWait(0, 1), run.look_at, (0, 1, 2))
        self.fails(MustWait(1, 0), run.look_at, (1, 0, 1))
        self.same([run.look_at((0, 2, 3)), run.look_at(look=(1, 1, 2))], [(0, 2), (0, 2)])
        run.begin(0, 0)
        self.fails(MustWait(0, 0), run.look_at, (0, -1, 0))
        run.end(0)
        self.same(run.look_at((0, -1, 0)), (1, 2))
        self.fails(MustWait(0, 1), run.look_at, (0, 0, 1))

    def test_without_wait(self):
        run = after(STRICT.with_care("wait", False), ("edit", 3, 4), ("begin", 0, 0))
        self.same([run.look_at((0, 0, 0)), run.look_at((0, 0, 1)), run.look_at((1, 0, 0))], [(0, 1), (0, 1), (0, 1)])

    def test_a_look_changes_nothing(self):
        run = after(LOOSE, ("edit", 3, 4), ("begin", 0, 0), ("end", 0))
        kept = told(run)
        self.same(run.look_at((0, 0, 1)), None)
        self.assertEqual(told(run), kept)

    def test_moments(self):
        run = after(LOOSE, ("edit", 3, 3), ("edit", 9, 9), ("begin", 0, 0), ("end", 0), ("edit", 9, 9), ("edit", 0, 0))
        self.same([run.look_at((0, 0, 0)), run.look_at((0, 1, 1)), run.look_at((0, 2, 2))], [(1, 4), (0, 5), (0, 2)])
        self.same(run.look_at((0, 0, 1)), (1, 4))

    def test_content(self):
        run = after(LOOSE, ("edit", 3, 4), ("begin", 0, 0), ("end", 0))
        self.assertEqual(run.content((0, 0, 0), [3, 2, 3, 4, -1]), Content([(2, 0), (3, 1)]))
        self.assertEqual(run.content((0, 0, 1), (3, 4)), Content([(3, 1), (4, 0)]))
        self.assertEqual(run.content((1, 0, 0), [3]), Content([(3, 0)]))
        self.assertEqual(run.content(cells=[], look=(0, 0, 0)), Content())
        self.assertEqual(run.content((0, FAR, FAR + 1), [4 * FAR, 4 * FAR + 8]), Content([(4 * FAR, 0)]))
        self.assertIs(type(run.content((0, 0, 0), [])), Content)

    def test_bars(self):
        run = after(LOOSE, ("edit", 3, 4), ("begin", 0, 0), ("end", 0))
        self.same([run.bar((0, 0, 0)), run.bar((0, 1, 1)), run.bar((1, 0, 1))], [None, None, None])
        self.assertIn(run.bar(look=(0, 0, 1)), [((4, 0), (3, 1), 1)])

    def test_no_look(self):
        for book in (LOOSE, STRICT, Book(TALL), Book(Margins(Ladder(3)))):
            run = after(book, ("edit", 0, 0))
            wrong = no_looks(book.ladder.levels)
            self.fails_always(InvalidLook, run.look_at, wrong)
            self.fails_always(InvalidLook, run.bar, wrong)
            self.fails_always(InvalidLook, run.content, wrong, [3])
            self.fails_always(InvalidLook, run.content, wrong, None)

    def test_no_cells(self):
        run = Run(LOOSE)
        self.fails_always(InvalidCell, lambda value: run.content((0, 0, 0), value), NO_LISTS)
        for value in NO_INTEGERS:
            self.fails(InvalidCell(value), run.content, (0, 0, 0), [3, value, "later"])
            self.fails(InvalidCell(value), run.content, (0, 0, 0), (value,))


class Versions(Case):

    def test_only_cells_that_the_tile_holds(self):
        run = after(Book(TALL, order="any"), ("edit", 3, 3), ("begin", 1, 1), ("end", 0))
        self.same([run.version(1, 1, cell) for cell in range(3, 8)], [0] * 5)
        for cell in (2, 8, -1, FAR):
            self.fails(NotHeld(1, 1, cell), run.version, 1, 1, cell)
        self.fails(NotHeld(0, 0, 2), run.version, 0, 0, 2)
        self.same(run.version(cell=8, tile=0, level=2), 0)
        self.fails(NotHeld(2, 0, 9), run.version, 2, 0, 9)

    def test_which_error_comes_first(self):
        run = Run(LOOSE)
        self.fails_always(InvalidLevel, run.version, no_levels(2), None, None)
        for value in NO_INTEGERS:
            self.fails(InvalidTile(value), run.version, 0, value, None)
            self.fails(InvalidCell(value), run.version, 0, 5, value)


class Rest(Case):

    def test_at_rest(self):
        run = Run(Book(Margins(Ladder(4)), wait=False))
        rests = [run.at_rest]
        for deed in [("edit", 3, 3), ("begin", 0, 0), ("end", 0)]:
            run.do(deed)
            rests.append(run.at_rest)
        self.same(rests, [True, False, False, True])

    def test_a_mark_of_any_level_is_no_rest(self):
        run = after(STRICT, ("edit", 3, 3), ("begin", 0, 0), ("end", 0))
        self.same([run.marked(0), run.marked(1), run.at_rest], [[], [0], False])
        self.same([run.begin(1, 0), run.at_rest, run.end(0), run.at_rest], [0, False, True, True])

    def test_returned_lists_are_new(self):
        run = after(LOOSE, ("edit", 3, 4), ("begin", 0, 0))
        kept = told(run)
        for result in (run.marked(0), run.busy(), run.deeds()):
            result.append(9)
            result.reverse()
        self.assertEqual(told(run), kept)


class Interface(Case):

    def test_all_that_is_listed_stands_in_the_class_itself(self):
        self.stands_in(Run, "onceseen.runs", [
            "__init__", "__len__", "marked", "busy", "version", "content", "bar", "edit", "lets", "begin", "end",
            "look_at", "do", "do_all", "deeds", "undo", "copy", "trying", "tried_by",
        ], ["book", "history", "at_rest"])

    def test_the_names_of_the_parameters(self):
        run = Run(STRICT)
        params = {"marked": ["level"], "busy": [], "version": ["level", "tile", "cell"], "content": ["look", "cells"],
                  "bar": ["look"], "edit": ["first", "last"], "lets": ["level", "tile"], "begin": ["level", "tile"],
                  "end": ["hand"], "look_at": ["look"], "do": ["deed"], "do_all": ["deeds"], "deeds": [], "undo": [],
                  "copy": [], "trying": [], "tried_by": ["action"]}
        for name, names in params.items():
            self.takes(getattr(run, name), *names)
        self.takes(Run, "book")
        self.assertIsNone(inspect.signature(run.edit).parameters["last"].default)

    def test_properties_are_not_assigned(self):
        for name in ("book", "history", "at_rest"):
            with self.assertRaises(AttributeError):
                setattr(Run(STRICT), name, True)

    def test_the_errors_are_errors_of_state(self):
        run = after(STRICT, ("edit", 3, 4))
        for call in (lambda: run.begin(0, 7), lambda: run.look_at((0, 0, 0)), lambda: run.begin(1, 0)):
            with self.assertRaises(StateError):
                call()


if __name__ == "__main__":
    unittest.main()
