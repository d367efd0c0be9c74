"""Runs: deeds as tuples, lists of them, taking back, trying and copies."""

import unittest

from onceseen.books import Book
from onceseen.errors import (CommandFailed, DeedFailed, InvalidDeed, InvalidHand, InvalidLevel, InvalidLook,
                             InvalidStretch, MustWait, NoHand, NothingToUndo, NotMarked, OutOfOrder, StateError,
                             StripError, TooMany)
from onceseen.history import History
from onceseen.ladders import Ladder
from onceseen.margins import Margins
from onceseen.runs import Run
from tests.checking import FAR, NO_INTEGERS, NO_LISTS, Case, alike
from tests.test_books import ALL_CARES
from tests.test_runs import LOOSE, PLAIN, STRICT, after, told

ROW = [("edit", 3, 4), ("begin", 0, 0), ("edit", 0, 0), ("end", 0), ("begin", 0, 1), ("end", 0)]

# Values that are no deed by their form.
NO_DEEDS = NO_INTEGERS + [
    "edit", "edit 3 4", ("edit",), ("edit", 3), ("edit", 3, 4, 5), ["edit", 3, 4], ("Edit", 3, 4), ("undo",), ("", 3),
    ("edit", 3, None), ("edit", True, 4), ("edit", 3, False), ("edit", "3", 4), ("edit", (3, 4)), ("begin", 0),
    ("begin", 0, 0, 0), ("begin", None, 0), ("begin", 0, True), ("end",), ("end", 0, 0), ("end", False), ("end", None),
    ("end", [0]), ("look", 0, 0), ("look", (0, 0, 0)), ("look", 0, 0, 0, 0), ("look", 0, 0, True), ("look", 0, None, 0),
    (3, 3, 4), (None, 3, 4), (["edit"], 3, 4), ({}, 3), ((), 1), (b"edit", 3, 4), (("edit", 3, 4),), {"edit": (3, 4)},
]


class Do(Case):

    def test_each_word(self):
        run = Run(LOOSE)
        self.same([run.do(("edit", 3, 4)), run.do(("begin", 0, 0)), run.do(("look", 0, 0, 1)), run.do(("end", 0)),
                   run.do(("look", 0, 0, 1)), run.do(deed=("look", 0, 0, 0))], [1, 0, (0, 1), True, None, (1, 2)])
        self.same(run.deeds(), [("edit", 3, 4), ("begin", 0, 0), ("end", 0)])

    def test_the_same_as_by_its_method(self):
        one, other = Run(LOOSE), Run(LOOSE)
        for deed in ROW:
            self.same(one.do(deed), getattr(other, deed[0])(*deed[1:]))
            self.assertEqual(told(one), told(other))

    def test_no_deed(self):
        run = after(LOOSE, *ROW)
        kept = told(run)
        self.fails_always(InvalidDeed, run.do, NO_DEEDS)
        self.assertEqual(told(run), kept)

    def test_errors_of_the_methods(self):
        run = after(STRICT, ("edit", 3, 4))
        kept = told(run)
        self.fails(InvalidStretch((4, 3)), run.do, ("edit", 4, 3))
        self.fails(TooMany("marks", 500), run.do, ("edit", 0, FAR))
        self.fails(InvalidLevel(2), run.do, ("begin", 2, 0))
        self.fails(NotMarked(0, 7), run.do, ("begin", 0, 7))
        self.fails(OutOfOrder(0), run.do, ("begin", 1, 0))
        self.fails(InvalidHand(0), run.do, ("end", 0))
        self.fails(InvalidLook((0, 0, 2)), run.do, ("look", 0, 0, 2))
        self.fails(InvalidLook((-1, 0, 0)), run.do, ("look", -1, 0, 0))
        self.fails(MustWait(0, 1), run.do, ("look", 0, 1, 2))
        self.assertEqual(told(run), kept)


class DoAll(Case):

    def test_what_they_return(self):
        run = Run(LOOSE)
        self.same(run.do_all(ROW + [("look", 0, 0, 1), ("look", 1, 0, 0)]), [1, 0, 2, True, 0, True, (1, 2), (0, 1)])
        self.same(run.deeds(), ROW)
        self.same(run.do_all([]), [])
        self.same(run.do_all(()), [])
        self.same(run.do_all(deeds=(("edit", 7, 7),)), [3])

    def failed(self, run, deeds, position, cause):
        """The deeds fail here, for this cause, and nothing changes."""
        kept = told(run)
        with self.assertRaises(DeedFailed) as caught:
            run.do_all(deeds)
        self.same(caught.exception.position, position)
        error = caught.exception.__cause__
        self.assertIs(type(error), type(cause))
        self.assertTrue(alike(list(vars(error).items()), list(vars(cause).items())), vars(error))
        self.assertEqual(told(run), kept)

    def test_if_one_fails_none_is_done(self):
        for cares in ALL_CARES[::5]:
            run = after(Book(PLAIN, **cares), ("edit", 1, 1), ("begin", 0, 0))
            self.failed(run, [("edit", 3, 4), ("end", 0), ("edit", 0, 0), ("begin", 0, 9)], 3, NotMarked(0, 9))

    def test_each_kind_of_error_is_a_cause(self):
        run = after(STRICT, ("edit", 3, 4))
        self.failed(run, [("begin", 0, 0), ("begin", 0, 1)], 1, NoHand())
        self.failed(run, [("edit", 0, FAR)], 0, TooMany("marks", 500))
        self.failed(run, [("edit", 9, 9), ("look", 0, 9, 9), ("look", 0, 0, 0)], 2, MustWait(0, 0))
        self.failed(run, [("begin", 0, 0), ("end", 0), ("end", 0)], 2, InvalidHand(0))
        self.failed(run, [("edit", 9, 9), ("edit", 9, 8), None], 1, InvalidStretch((9, 8)))

    def test_no_deeds_in_the_list(self):
        run = after(STRICT, ("edit", 3, 4))
        for value in NO_DEEDS:
            self.failed(run, [("edit", 9, 9), ("begin", 0, 0), value, None], 2, InvalidDeed(value))
            self.failed(run, (value,), 0, InvalidDeed(value))

    def test_no_list(self):
        run = after(STRICT, ("edit", 3, 4))
        for value in NO_LISTS + ["edit 3 4"]:
            self.fails(InvalidDeed(None), run.do_all, value)
        self.same(len(run), 1)

    def test_the_list_stays(self):
        deeds = list(ROW)
        run = after(LOOSE, *deeds)
        run.do_all(deeds)
        self.same(deeds, ROW)
        deeds.clear()
        self.same(run.deeds(), ROW + ROW)

    def test_deeds_can_be_done_again(self):
        for cares in ALL_CARES[::7]:
            run = after(Book(PLAIN, **cares), ("edit", 3, 4), ("begin", 0, 0), ("edit", 0, 0), ("end", 0))
            again = Run(run.book)
            again.do_all(run.deeds())
            self.assertEqual(told(again), told(run))


class Undo(Case):

    def test_to_the_beginning_and_beyond(self):
        for cares in ALL_CARES:
            run = Run(Book(Margins(Ladder(2, [2], [(0, 1), (1, 0)])), **cares))
            states = [told(run)]
            deeds = [("edit", 1, 3), ("begin", 0, 0), ("edit", 0, 0), ("end", 0), ("begin", 0, 1), ("end", 0)]
            for deed in deeds:
                run.do(deed)
                states.append(told(run))
            for deed in reversed(deeds):
                self.assertEqual(told(run), states.pop())
                self.same(run.undo(), deed)
                self.assertEqual(told(run), states[-1])
            for _ in range(2):
                self.fails(NothingToUndo(), run.undo)
            self.assertEqual(told(run), told(Run(run.book)))

    def test_two_drawings_and_dropped_ones(self):
        book = Book(PLAIN, hands=2, alone=False, drop=True, unmark="end")
        run = Run(book)
        states = []
        deeds = [("edit", 3, 4), ("begin", 0, 0), ("begin", 0, 0), ("end", 1), ("edit", 3, 3), ("begin", 0, 0),
                 ("end", 0), ("end", 1)]
        for deed in deeds:
            states.append((told(run), run.marked(0)))
            run.do(deed)
        self.same(run.version(0, 0, 3), 2)
        for deed in reversed(deeds):
            self.same(run.undo(), deed)
            self.assertEqual((told(run), run.marked(0)), states.pop())

    def test_an_edit_that_is_taken_back_drops_nothing(self):
        run = after(Book(PLAIN, drop=True), ("edit", 3, 4), ("begin", 0, 0), ("edit", 3, 3))
        self.same([run.undo(), run.end(0), run.version(0, 0, 3)], [("edit", 3, 3), True, 1])

    def test_looks_are_not_taken_back(self):
        run = after(LOOSE, ("edit", 3, 4), ("look", 0, 0, 0), ("begin", 0, 0), ("look", 0, 0, 1))
        self.same([len(run), run.undo(), run.undo(), len(run)], [2, ("begin", 0, 0), ("edit", 3, 4), 0])

    def test_a_cell_is_told_as_a_stretch(self):
        run = Run(LOOSE)
        run.edit(5)
        self.same(run.undo(), ("edit", 5, 5))

    def test_what_failed_is_not_taken_back(self):
        run = after(LOOSE, ("edit", 3, 4))
        self.fails(NotMarked(0, 5), run.begin, 0, 5)
        self.fails(DeedFailed(1), run.do_all, [("begin", 0, 0), ("end", 1)])
        self.same([run.undo(), len(run)], [("edit", 3, 4), 0])

    def test_behind_an_undo_it_goes_on(self):
        run = after(LOOSE, *ROW)
        run.undo()
        run.undo()
        self.same([run.begin(0, 1), run.edit(9), run.deeds()], [0, 3, ROW[:-2] + [("begin", 0, 1), ("edit", 9, 9)]])


class Copies(Case):

    def test_equal_in_all(self):
        for cares in ALL_CARES[::3]:
            run = after(Book(PLAIN, **cares), ("edit", 3, 4), ("begin", 0, 0), ("edit", 0, 0))
            copied = run.copy()
            self.assertIs(type(copied), Run)
            self.assertIsNot(copied, run)
            self.assertEqual(told(copied), told(run))
            for one in (run, copied):
                self.same([one.end(0), one.undo(), one.undo()], [not cares["drop"], ("end", 0), ("edit", 0, 0)])
            self.assertEqual(told(copied), told(run))

    def test_each_goes_its_own_way(self):
        run = after(LOOSE, *ROW)
        kept = told(run)
        copied = run.copy()
        copied.do_all([("edit", 9, 9), ("begin", 1, 0), ("end", 0), ("begin", 0, 0)])
        self.assertEqual(told(run), kept)
        while len(copied) > 0:
            copied.undo()
        self.assertEqual(told(run), kept)
        again = run.copy()
        run.do_all([("edit", 9, 9), ("begin", 1, 0), ("end", 0)])
        while len(run) > 0:
            run.undo()
        self.assertEqual(told(again), kept)

    def test_a_copy_within_a_trying(self):
        run = after(LOOSE, *ROW)
        with run.trying():
            run.edit(9)
            copied = run.copy()
        self.same([len(run), len(copied), copied.undo()], [6, 7, ("edit", 9, 9)])
        self.assertEqual(told(copied), told(run))


class Trying(Case):

    def test_at_its_end_the_run_is_as_it_was(self):
        for cares in ALL_CARES[::3]:
            run = after(Book(PLAIN, **cares), ("edit", 3, 4), ("begin", 0, 0))
            kept = told(run)
            with run.trying() as same:
                self.assertIs(same, run)
                self.same([same.edit(0), same.end(0), len(run)], [2, not cares["drop"], 4])
            self.assertEqual(told(run), kept)
            self.same(run.undo(), ("begin", 0, 0))

    def test_also_behind_an_error(self):
        run = after(LOOSE, *ROW)
        kept = told(run)
        with self.assertRaises(NotMarked):
            with run.trying() as same:
                same.edit(9)
                same.begin(0, 77)
        self.assertEqual(told(run), kept)
        with self.assertRaises(ZeroDivisionError):
            with run.trying():
                run.undo()
                raise ZeroDivisionError
        self.assertEqual(told(run), kept)

    def test_deeds_that_are_taken_back_within(self):
        run = after(LOOSE, *ROW)
        kept = told(run)
        with run.trying():
            while len(run) > 0:
                run.undo()
            run.do_all([("edit", 3, 3), ("begin", 1, 0)])
        self.assertEqual(told(run), kept)
        self.same([run.undo(), run.undo()], [("end", 0), ("begin", 0, 1)])

    def test_one_within_another(self):
        run = after(LOOSE, *ROW)
        first = told(run)
        with run.trying():
            run.edit(9)
            second = told(run)
            with run.trying():
                run.do_all([("begin", 0, 2), ("end", 0)])
            self.assertEqual(told(run), second)
            run.begin(0, 2)
        self.assertEqual(told(run), first)

    def test_the_same_one_again_and_within_itself(self):
        run = after(LOOSE, *ROW)
        trying = run.trying()
        for number in range(2):
            kept = told(run)
            with trying:
                run.edit(9)
                inner = told(run)
                with trying as same:
                    same.undo()
                    same.undo()
                self.assertEqual(told(run), inner)
            self.assertEqual(told(run), kept)
            run.edit(20 + number)

    def test_as_it_was_when_it_began(self):
        run = after(LOOSE, ("edit", 3, 4))
        trying = run.trying()
        run.begin(0, 0)
        with trying:
            run.end(0)
        self.same(run.busy(), [(0, 0, 0)])

    def test_nothing_is_hidden(self):
        run = Run(LOOSE)
        with run.trying():
            self.same(run.do_all(ROW), [1, 0, 2, True, 0, True])
            self.same(run.look_at((0, 0, 1)), (1, 2))
        self.same(run.at_rest, True)


class TriedBy(Case):

    def test_what_the_action_returns(self):
        run = after(LOOSE, ("edit", 3, 4))
        kept = told(run)
        self.same(run.tried_by(lambda same: [same is run, same.begin(0, 0), same.end(0), same.look_at((0, 0, 1))]),
                  [True, 0, True, None])
        self.same(run.tried_by(action=lambda same: None), None)
        self.assertEqual(run.tried_by(lambda same: same.history + (1, 1)), History((3, 4), (1, 1)))
        self.assertEqual(told(run), kept)

    def test_also_if_it_raises_an_error(self):
        run = after(LOOSE, *ROW)
        kept = told(run)

        def fail(same):
            same.edit(5)
            same.undo()
            same.undo()
            raise KeyError("inner")

        with self.assertRaises(KeyError):
            run.tried_by(fail)
        self.fails(InvalidHand(7), run.tried_by, lambda same: [same.edit(5), same.end(7)])
        self.assertEqual(told(run), kept)

    def test_one_within_another(self):
        run = after(LOOSE, ("edit", 3, 4))
        self.same(run.tried_by(lambda same: [same.edit(1), same.tried_by(lambda own: own.edit(2)), len(same)]),
                  [2, 3, 2])
        self.same(len(run), 1)


class Kinds(Case):

    def test_errors(self):
        run = Run(STRICT)
        for kind, call in ((StripError, lambda: run.do(None)), (StateError, lambda: run.do_all([None])),
                           (StateError, run.undo), (RuntimeError, run.undo), (ValueError, lambda: run.end(0))):
            with self.assertRaises(kind):
                call()
        self.assertFalse(issubclass(DeedFailed, CommandFailed))


if __name__ == "__main__":
    unittest.main()
