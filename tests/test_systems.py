"""Watched systems: what is watched, bundles, states, and the errors of wrong values."""

import inspect
import unittest
from itertools import product
from unittest.mock import patch

from onceseen.books import Book
from onceseen.errors import (InvalidCell, InvalidCount, InvalidEdits, InvalidLook, InvalidState, InvalidWish, NotHeld,
                             TooMany)
from onceseen.history import History
from onceseen.ladders import Ladder
from onceseen.margins import Margins
from onceseen.states import MOST_STATES
from onceseen.systems import System
from tests.checking import FAR, NO_INTEGERS, Case, no_looks
from tests.test_books import DEFAULTS

PLAIN = Margins(Ladder(4, [2]))
EDGED = Margins(Ladder(4, [2], [(0, 0), (1, 0)]))
TALL = Margins(Ladder(2, [2, 2], [(0, 0), (1, 0), (0, 1)]))
LOOSE = System(Book(PLAIN, order="any", wait=False), (1, 0, 0), 3, 4, edits=1)

NO_WISHES = [None, True, False, 0, 1, "", "Whole", "whole ", "wholefresh", b"whole", ("whole",), ["whole"],
             {"whole": 1}, {"whole"}, History(), ()]
NO_EDITS = NO_INTEGERS + [0, 3, -1, FAR]


def single(margins=PLAIN, look=(0, 0, 0), cell=1, **cares):
    """A system of a single cell and edit."""
    return System(Book(margins, **cares), look, cell, cell, edits=1)


def watch(margins, look, x, z, edits=1, **cares):
    """The watched tiles and their flags."""
    system = System(Book(margins, **cares), look, x, z, edits=edits)
    return list(zip(system.watched, system.flags))


class Watched(Case):

    def test_the_printed_values(self):
        self.same([LOOSE.watched, LOOSE.flags, LOOSE.bundles(0), LOOSE.bundles(1), LOOSE.start()], [
            ((0, 0), (0, 1), (1, 0)), ((True, False), (False, True), (True, True)),
            [(), (0, 1, 2), (0, 2), (1, 2)], [(0, 1, 2)], (0, ((0, 0, -1), (0, -1, 0), (0, 0, 0)), ())])

    def test_parts(self):
        book = Book(PLAIN, hands=2)
        system = System(book, (1, -1, 0), -8, 7, edits=2)
        self.assertEqual(system.book, book)
        self.same([system.look, system.x, system.z, system.edits], [(1, -1, 0), -8, 7, 2])
        self.assertEqual(System(edits=1, z=4, x=3, look=(1, 0, 0), book=LOOSE.book), LOOSE)

    def test_only_tiles_of_the_look_that_hold_a_cell_without_wait(self):
        self.same(watch(PLAIN, (0, 0, 1), 3, 3, wait=False), [((0, 0), (True, True))])
        self.same(watch(PLAIN, (0, 0, 1), 3, 4, wait=False), [((0, 0), (True, False)), ((0, 1), (False, True))])

    def test_all_tiles_of_the_look_with_wait(self):
        self.same(watch(PLAIN, (0, 0, 1), 3, 3), [((0, 0), (True, True)), ((0, 1), (False, False))])
        self.same(watch(PLAIN, (1, -1, 0), 3, 3, source="drawing"),
                  [((1, -1), (False, False)), ((1, 0), (True, True))])

    def test_owners_at_lower_levels_with_finer_alone(self):
        self.same(watch(TALL, (2, 0, 0), 3, 8), [
            ((0, 1), (True, False)), ((0, 4), (False, True)), ((1, 0), (True, False)), ((1, 2), (False, True)),
            ((2, 0), (True, True))])
        self.same(watch(TALL, (2, 0, 0), 3, 8, source="drawing"), [((2, 0), (True, True))])

    def test_a_tile_of_the_look_is_watched_for_what_it_holds_and_another_for_what_it_owns(self):
        # The tile 1 of level 1 holds the cell 7 by its edge; at level 0 nothing but the owner is watched.
        margins = Margins(Ladder(4, [2], [(1, 0), (1, 0)]))
        self.same(watch(margins, (1, 0, 1), 7, 8), [
            ((0, 1), (True, False)), ((0, 2), (False, True)), ((1, 0), (True, False)), ((1, 1), (True, True))])
        self.same(watch(margins, (0, 1, 2), 7, 7), [((0, 1), (True, True)), ((0, 2), (True, True))])

    def test_one_tile_for_both_cells(self):
        self.same(watch(PLAIN, (1, 0, 0), 1, 2), [((0, 0), (True, True)), ((1, 0), (True, True))])
        self.same(watch(PLAIN, (1, 0, 0), 2, 2, edits=2), [((0, 0), (True, True)), ((1, 0), (True, True))])

    def test_cells_at_the_ends_of_what_is_held_and_owned(self):
        for cell, owner in ((-1, -1), (0, 0), (3, 0), (4, 1), (7, 1)):
            self.same(watch(EDGED, (1, 0, 0), cell, cell), [((0, owner), (True, True)), ((1, 0), (True, True))])

    def test_far_and_great_tiles(self):
        margins = Margins(Ladder(FAR, [2], [(0, 0), (1, 0)]))
        far = 10 ** 20
        system = System(Book(margins), (1, far, far), 2 * FAR * far - 1, 2 * FAR * far, edits=2)
        self.same(list(zip(system.watched, system.flags)), [
            ((0, 2 * far - 1), (True, False)), ((0, 2 * far), (False, True)), ((1, far), (True, True))])
        self.same(system.bundles(1), [(0, 1, 2), (0, 2)])
        self.same(system.bundles(2), [(0, 1, 2), (1, 2)])


class Bundles(Case):

    def test_by_kinds(self):
        two = System(LOOSE.book, (1, 0, 0), 3, 4, edits=2)
        self.same([two.bundles(kind) for kind in range(3)],
                  [[(), (0, 1, 2), (0, 2), (1, 2)], [(0, 1, 2), (0, 2)], [(0, 1, 2), (1, 2)]])
        self.same(LOOSE.bundles(kind=2), [])

    def test_margins_that_lack_something(self):
        # The tile 1 of level 1 holds the cell 7, but an edit of this cell alone does not mark it.
        lacking = Margins(Ladder(4, [2], [(0, 0), (1, 0)]), [(0, 0), (0, 0)])
        system = System(Book(lacking), (1, 1, 1), 7, 7, edits=1)
        self.same([system.watched, system.bundles(0), system.bundles(1)],
                  [((0, 1), (1, 1)), [(), (0,), (0, 1), (1,)], [(0,), (0, 1)]])

    def test_an_edit_that_touches_a_cell_may_mark_nothing(self):
        none = Margins(Ladder(4, [], [(2, 2)]), [(0, 0)])
        system = System(Book(none), (0, 0, 0), -1, 5, edits=2)
        self.same([system.bundles(kind) for kind in range(3)], [[(), (0,)], [(), (0,)], [(), (0,)]])
        self.same(System(Book(none), (0, 0, 0), -1, 5, edits=1).bundles(1), [(0,)])

    def test_no_kind(self):
        for system in (LOOSE, single()):
            self.fails_always(InvalidCount, system.bundles, NO_INTEGERS + [-1, 3, FAR])

    def test_returned_lists_are_new(self):
        kept = LOOSE.bundles(0)
        LOOSE.bundles(0).append((9,))
        LOOSE.bundles(2).append((9,))
        self.same([LOOSE.bundles(0), LOOSE.bundles(2)], [kept, []])


class Making(Case):

    def test_no_look(self):
        for book in (Book(PLAIN), Book(TALL), Book(Margins(Ladder(3)))):
            for look in no_looks(book.ladder.levels):
                self.fails(InvalidLook(look), System, book, look, None, None, edits=None)

    def test_no_cells(self):
        for value in NO_INTEGERS:
            self.fails(InvalidCell(value), System, Book(PLAIN), (1, 0, 0), value, None, edits=None)
            self.fails(InvalidCell(value), System, Book(PLAIN), (1, 0, 0), 99, value, edits=None)

    def test_no_number_of_edits(self):
        for value in NO_EDITS:
            self.fails(InvalidEdits(value), System, Book(PLAIN), (1, 0, 0), 99, 99, edits=value)

    def test_cells_that_are_not_held(self):
        book = Book(EDGED)
        for look, low, high in (((1, 0, 0), -1, 7), ((1, 0, 1), -1, 15), ((0, 2, 2), 8, 11), ((1, -3, -2), -25, -9)):
            level, first, _ = look
            for cell in (low - 1, high + 1, FAR, -FAR):
                self.fails(NotHeld(level, first, cell), System, book, look, cell, low, edits=1)
                self.fails(NotHeld(level, first, cell), System, book, look, high, cell, edits=2)
                self.fails(NotHeld(level, first, cell), System, book, look, cell, 9999, edits=2)
            for x, z in product((low, high), repeat=2):
                self.same(System(book, look, x, z, edits=2).x, x)

    def test_edits_are_passed_by_name(self):
        with self.assertRaises(TypeError):
            System(Book(PLAIN), (1, 0, 0), 3, 4, 1)
        with self.assertRaises(TypeError):
            System(Book(PLAIN), (1, 0, 0), 3, 4)


class States(Case):

    def test_starts(self):
        self.same(single().start(), (0, ((0, 0, 0),), ()))
        system = System(Book(PLAIN), (0, 0, 1), 3, 3, edits=2)
        self.same(system.start(), (0, ((0, 0, 0), (0, -1, -1)), ()))

    def test_nexts_of_a_start(self):
        self.same(single().nexts((0, ((0, 0, 0),), ())), [(0, ((1, 0, 0),), ()), (1, ((1, 0, 0),), ())])
        none = System(Book(Margins(Ladder(4, [], [(1, 0)]), [(0, 0)])), (0, 0, 0), -1, -1, edits=1)
        self.same(none.nexts(none.start()), [(0, ((1, 0, 0),), ()), (1, ((0, 0, 0),), ()), (1, ((1, 0, 0),), ())])

    def test_the_edits_come_one_behind_the_other(self):
        two = System(Book(PLAIN), (0, 0, 1), 3, 4, edits=2)
        tiles = ((0, 0, -1), (0, -1, 0))
        self.same(sorted({state[0] for state in two.nexts((0, tiles, ()))}), [0, 1])
        self.same([state for state in two.nexts((1, tiles, ())) if state[0] == 2],
                  [(2, ((0, 0, -1), (1, -1, 0)), ()), (2, ((1, 0, -1), (1, -1, 0)), ())])
        self.same([state for state in two.nexts((2, tiles, ())) if state[0] != 2], [])

    def test_begins_and_what_they_read_at_level_0(self):
        for phase, had in ((0, 0), (1, 1)):
            system = single()
            self.assertIn((phase, ((0, 0, 0),), ((0, had, had, 0),)), system.nexts((phase, ((1, 0, 0),), ())))
            kept = single(unmark="end")
            self.assertIn((phase, ((1, 0, 0),), ((0, had, had, 0),)), kept.nexts((phase, ((1, 0, 0),), ())))
        two = System(Book(PLAIN), (0, 0, 0), 1, 2, edits=2)
        for phase, read in ((0, (0, 0)), (1, (1, 0)), (2, (1, 1))):
            self.assertIn((phase, ((0, 0, 0),), ((0, *read, 0),)), two.nexts((phase, ((1, 0, 0),), ())))

    def test_what_is_read_above(self):
        tiles = ((0, 1, -1), (0, -1, 0), (1, 0, 0))
        self.assertIn((1, ((0, 1, -1), (0, -1, 0), (0, 0, 0)), ((2, 1, 0, 0),)), LOOSE.nexts((1, tiles, ())))
        strip = System(LOOSE.book.with_care("source", "drawing"), (1, 0, 0), 3, 4, edits=1)
        self.assertIn((1, ((0, 0, 0),), ((0, 1, 1, 0),)), strip.nexts((1, ((1, 0, 0),), ())))

    def test_orders(self):
        upper_and_lower = (1, ((1, 0, -1), (0, -1, 0), (1, 0, 0)), ())
        under_way = (1, ((0, 0, -1), (0, -1, 0), (1, 0, 0)), ((0, 1, -1, 0),))
        for order, lets in (("any", (True, True)), ("finest", (False, True)), ("settled", (False, False))):
            system = System(Book(PLAIN, order=order, hands=2), (1, 0, 0), 3, 4, edits=1)
            for state, expected in zip((upper_and_lower, under_way), lets):
                begun = [after for after in system.nexts(state) if any(drawing[0] == 2 for drawing in after[2])]
                self.assertIs(begun != [], expected, (order, state))

    def test_hands_and_alone(self):
        state = (1, ((1, 0, 0),), ((0, 0, 0, 0),))
        for hands, alone, lets in ((1, True, False), (1, False, False), (2, True, False), (2, False, True)):
            after = single(hands=hands, alone=alone).nexts(state)
            self.assertIs((1, ((0, 0, 0),), ((0, 0, 0, 0), (0, 1, 1, 0))) in after, lets)
        full = (1, ((1, 0, 0),), ((0, 0, 0, 0), (0, 1, 1, 0)))
        self.same([len(after[2]) for after in single(hands=2, alone=False).nexts(full)], [1, 1])

    def test_two_drawings_that_are_just_the_same(self):
        system = single(hands=2, alone=False)
        self.same(system.nexts((1, ((1, 0, 0),), ((0, 1, 1, 0), (0, 1, 1, 0)))), [(1, ((1, 1, 1),), ((0, 1, 1, 0),))])

    def test_ends(self):
        for unmark, drop, since in product(("begin", "end"), (True, False), (0, 1)):
            if since == 1 and not drop:
                continue
            after = single(unmark=unmark, drop=drop).nexts((1, ((1, 0, 0),), ((0, 1, 1, since),)))
            dropped = drop and since == 1
            marked = 0 if unmark == "end" and not dropped else 1
            self.assertIn((1, ((marked, 0, 0),) if dropped else ((marked, 1, 1),), ()), after)

    def test_edits_tell_drawings_that_they_came_behind(self):
        state = (1, ((0, 0, -1), (0, -1, 0), (0, 0, 0)), ((0, 1, -1, 0), (2, 0, 0, 0)))
        book = Book(PLAIN, hands=2, order="any", drop=True)
        after = System(book, (1, 0, 0), 3, 4, edits=1).nexts(state)
        self.assertIn((1, ((1, 0, -1), (0, -1, 0), (1, 0, 0)), ((0, 1, -1, 1), (2, 0, 0, 1))), after)
        self.assertIn((1, ((0, 0, -1), (1, -1, 0), (1, 0, 0)), ((0, 1, -1, 0), (2, 0, 0, 1))), after)
        kept = System(book.with_care("drop", False), (1, 0, 0), 3, 4, edits=1).nexts(state)
        self.assertIn((1, ((1, 0, -1), (0, -1, 0), (1, 0, 0)), ((0, 1, -1, 0), (2, 0, 0, 0))), kept)

    def test_a_state_that_is_the_same_is_no_next_one(self):
        for phase in (0, 1):
            state = (phase, ((1, 0, 0),), ())
            self.assertNotIn(state, single().nexts(state))

    def test_states_that_no_deed_leads_to(self):
        state = (0, ((0, 1, 1),), ())
        self.assertNotIn(state, single().table())
        self.same(single().nexts(state), [(0, ((1, 1, 1),), ()), (1, ((1, 1, 1),), ())])

    def test_a_small_table(self):
        # What is begun behind the edit reads it; what is begun ahead of it leaves the mark of the edit.
        self.same(single().table(), [
            (0, ((0, 0, 0),), ()), (0, ((0, 0, 0),), ((0, 0, 0, 0),)),
            (0, ((1, 0, 0),), ()), (0, ((1, 0, 0),), ((0, 0, 0, 0),)),
            (1, ((0, 0, 0),), ((0, 1, 1, 0),)), (1, ((0, 1, 1),), ()), (1, ((0, 1, 1),), ((0, 1, 1, 0),)),
            (1, ((1, 0, 0),), ()), (1, ((1, 0, 0),), ((0, 0, 0, 0),)), (1, ((1, 0, 0),), ((0, 1, 1, 0),)),
            (1, ((1, 1, 1),), ()), (1, ((1, 1, 1),), ((0, 1, 1, 0),))])

    def test_returned_lists_are_new(self):
        kept = single().table()
        single().table().clear()
        system = single()
        system.table().append(1)
        system.nexts(system.start()).append(1)
        self.same([system.table(), len(system.nexts(system.start()))], [kept, 2])


class GoingWrong(Case):

    def test_whole_with_one_edit(self):
        lower = ((0, 0, -1), (0, -1, 0))
        for x, z in product((0, 1), repeat=2):
            self.assertIs(LOOSE.goes_wrong((1, (*lower, (0, x, z)), ()), "whole"), x != z)
        one = single(wait=False)
        for x in (0, 1):
            self.assertIs(one.goes_wrong((1, ((0, x, x),), ()), "whole"), False)

    def test_whole_with_two_edits(self):
        two = System(LOOSE.book, (1, 0, 0), 3, 4, edits=2)
        for x, z in product((0, 1), repeat=2):
            state = (2, ((0, 0, -1), (0, -1, 0), (0, x, z)), ())
            self.assertIs(two.goes_wrong(state, "whole"), (x, z) == (0, 1))

    def test_whole_in_two_tiles(self):
        for edits in (1, 2):
            system = System(Book(PLAIN, wait=False), (0, 0, 1), 3, 4, edits=edits)
            for x, z in product((0, 1), repeat=2):
                wrong = (x, z) == (0, 1) if edits == 2 else x != z
                self.assertIs(system.goes_wrong((0, ((0, x, -1), (0, -1, z)), ()), "whole"), wrong)

    def test_one_cell_in_two_tiles(self):
        margins = Margins(Ladder(4, [], [(1, 0)]))
        for edits in (1, 2):
            system = System(Book(margins, wait=False), (0, 0, 1), 3, 3, edits=edits)
            wrong = [(one, other) for one, other in product(product((0, 1), repeat=2), repeat=2)
                     if system.goes_wrong((1, ((0, *one), (0, *other)), ()), "whole")]
            expected = [(one, other) for one, other in product(product((0, 1), repeat=2), repeat=2)
                        if (0 in (one[0], other[0]) and 1 in (one[1], other[1]) if edits == 2
                            else len({*one, *other}) == 2)]
            self.same(wrong, expected)

    def test_looks_that_must_wait_do_not_go_wrong(self):
        system = System(Book(PLAIN, hands=2), (0, 0, 1), 3, 4, edits=1)
        torn = ((0, 0, -1), (0, -1, 1))
        self.same(system.goes_wrong((1, torn, ()), "whole"), True)
        self.same(system.goes_wrong((1, ((1, 0, -1), (0, -1, 1)), ()), "whole"), False)
        self.same(system.goes_wrong((1, ((0, 0, -1), (1, -1, 1)), ()), "whole"), False)
        self.same(system.goes_wrong((1, torn, ((0, 1, -1, 0),)), "whole"), False)
        self.same(system.goes_wrong((1, torn, ((1, -1, 0, 0),)), "whole"), False)

    def test_marks_and_drawings_below_the_look_do_not_matter_for_wait(self):
        system = System(Book(PLAIN), (1, 0, 0), 3, 4, edits=1)
        self.same(system.goes_wrong((1, ((1, 0, -1), (1, -1, 0), (0, 1, 0)), ((0, 1, -1, 0),)), "whole"), True)

    def test_fresh(self):
        system = single(look=(1, 0, 0))
        self.same(system.goes_wrong((1, ((0, 1, 1), (0, 0, 0)), ()), "fresh"), True)
        for state in ((0, ((0, 1, 1), (0, 0, 0)), ()), (1, ((1, 1, 1), (0, 0, 0)), ()),
                      (1, ((0, 1, 1), (1, 0, 0)), ()), (1, ((0, 1, 1), (0, 0, 0)), ((0, 1, 1, 0),)),
                      (1, ((0, 0, 0), (0, 1, 1)), ())):
            self.same(system.goes_wrong(state, "fresh"), False)

    def test_forward(self):
        system = single(look=(1, 0, 0), drop=True, hands=2, alone=False)
        has, lacks = ((0, 1, 1), (0, 1, 1)), ((0, 0, 0), (0, 0, 0))
        self.same(system.goes_wrong((1, has, ((1, 0, 0, 0),)), "forward"), True)
        for state in ((1, has, ((1, 0, 0, 1),)), (1, has, ((1, 1, 1, 0),)), (1, lacks, ((1, 0, 0, 0),)),
                      (1, has, ((0, 0, 0, 0),)), (1, has, ())):
            self.same(system.goes_wrong(state, "forward"), False)
        self.same(system.goes_wrong((1, has, ((1, 0, 0, 0), (1, 1, 1, 0))), "forward"), True)
        self.same(single(look=(1, 0, 0)).goes_wrong((1, has, ((1, 0, 0, 0),)), "forward"), True)

    def test_no_wish(self):
        for system in (LOOSE, single()):
            for wish in NO_WISHES:
                self.fails(InvalidWish(wish), system.goes_wrong, system.start(), wish)

    def test_wishes_that_a_system_does_not_have(self):
        book = Book(EDGED)
        lacking = [System(book, (1, 0, 0), 3, 4, edits=1), System(book, (1, 0, 0), 3, 3, edits=2),
                   System(book, (1, 0, 1), 3, 3, edits=1), System(book, (1, 0, 1), 7, 7, edits=1)]
        for system, wish in product(lacking, ("fresh", "forward")):
            self.fails(InvalidWish(wish), system.goes_wrong, system.start(), wish)
            self.same(system.goes_wrong(system.start(), "whole"), False)
        having = System(book, (1, 0, 0), 3, 3, edits=1)
        for wish in ("whole", "fresh", "forward"):
            self.same(having.goes_wrong(wish=wish, state=having.start()), False)


TILES = ((0, 0, -1), (0, -1, 0), (0, 0, 0))
TWO = System(Book(PLAIN, hands=2, order="any"), (1, 0, 0), 3, 4, edits=1)
LATE = System(Book(PLAIN, hands=2, order="any", drop=True, alone=False), (1, 0, 0), 3, 4, edits=2)

# Values that are no state of TWO.
NO_STATES = [
    None, True, 0, "", "state", (), (0,), (0, TILES), (0, TILES, (), ()), [0, TILES, ()], [], {}, {0: TILES}, {1},
    History(), ((0, TILES, ()),),
    (True, TILES, ()), (False, TILES, ()), (-1, TILES, ()), (2, TILES, ()), (None, TILES, ()), ("0", TILES, ()),
    ((0,), TILES, ()), (FAR, TILES, ()),
    (0, (), ()), (0, TILES[:2], ()), (0, (*TILES, (0, 0, 0)), ()), (0, list(TILES), ()), (0, None, ()), (0, 0, ()),
    (0, ((0, 0, -1), (0, -1, 0), [0, 0, 0]), ()), (0, ((0, 0, -1), (0, -1, 0), (0, 0)), ()),
    (0, ((0, 0, -1), (0, -1, 0), (0, 0, 0, 0)), ()), (0, ((0, 0, -1), (0, -1, 0), None), ()),
    (0, ((0, 0, 0), (0, -1, 0), (0, 0, 0)), ()), (0, ((0, -1, -1), (0, -1, 0), (0, 0, 0)), ()),
    (0, ((0, 0, -1), (0, 1, 0), (0, 0, 0)), ()), (0, ((0, 0, -1), (0, -1, 0), (0, 0, -1)), ()),
    (0, ((2, 0, -1), (0, -1, 0), (0, 0, 0)), ()), (0, ((-1, 0, -1), (0, -1, 0), (0, 0, 0)), ()),
    (0, ((True, 0, -1), (0, -1, 0), (0, 0, 0)), ()), (0, ((0, True, -1), (0, -1, 0), (0, 0, 0)), ()),
    (0, ((0, 0, -1), (0, -1, False), (0, 0, 0)), ()), (0, ((0, 0, -1), (0, -1, 0), (0, 2, 0)), ()),
    (0, ((0, 0, -1), (0, -1, 0), (0, None, 0)), ()), (0, ((0, 0, -1), (0, -1, 0), ("0", 0, 0)), ()),
    (0, TILES, []), (0, TILES, None), (0, TILES, 0), (0, TILES, (0, 0, -1, 0)), (0, TILES, ([0, 0, -1, 0],)),
    (0, TILES, ((0, 0, -1),)), (0, TILES, ((0, 0, -1, 0, 0),)), (0, TILES, (None,)),
    (0, TILES, ((3, 0, 0, 0),)), (0, TILES, ((-1, 0, 0, 0),)), (0, TILES, ((True, -1, 0, 0),)),
    (0, TILES, ((False, 0, -1, 0),)), (0, TILES, ((None, 0, 0, 0),)), (0, TILES, ((FAR, 0, 0, 0),)),
    (0, TILES, ((0, 0, 0, 0),)), (0, TILES, ((0, -1, -1, 0),)), (0, TILES, ((1, 0, 0, 0),)),
    (0, TILES, ((2, -1, 0, 0),)), (0, TILES, ((2, 0, 2, 0),)), (0, TILES, ((2, True, 0, 0),)),
    (0, TILES, ((2, 0, None, 0),)), (0, TILES, ((2, 0, 0, 1),)), (0, TILES, ((2, 0, 0, -1),)),
    (0, TILES, ((2, 0, 0, False),)), (0, TILES, ((2, 0, 0, None),)), (0, TILES, ((2, 0, 0, 2),)),
    (0, TILES, ((2, 0, 0, 0), (0, 0, -1, 0))), (0, TILES, ((0, 0, -1, 0), (0, 0, -1, 0))),
    (0, TILES, ((0, 0, -1, 0), (0, 1, -1, 0))),
    (0, TILES, ((0, 0, -1, 0), (1, -1, 0, 0), (2, 0, 0, 0))),
]


class NoStates(Case):

    def test_values_of_all_kinds(self):
        for value in NO_STATES:
            self.fails(InvalidState(value), TWO.nexts, value)
            self.fails(InvalidState(value), TWO.goes_wrong, value, "whole")

    def test_states_come_ahead_of_wishes(self):
        self.fails(InvalidState(None), TWO.goes_wrong, None, "none")
        self.fails(InvalidState(None), TWO.goes_wrong, None, "fresh")

    def test_what_else_can_be_a_state(self):
        for state in ((1, TILES, ()), (0, TILES, ((0, 0, -1, 0), (2, 1, 0, 0))), (1, TILES, ((1, -1, 1, 0),))):
            self.same(TWO.goes_wrong(state, "whole"), False)
            self.same(type(TWO.nexts(state)), list)

    def test_more_hands_than_there_are(self):
        one = System(Book(PLAIN, order="any"), (1, 0, 0), 3, 4, edits=1)
        state = (0, TILES, ((0, 0, -1, 0), (1, -1, 0, 0)))
        self.fails(InvalidState(state), one.nexts, state)
        self.same(len(one.nexts((0, TILES, ((0, 0, -1, 0),)))) > 0, True)

    def test_more_that_a_freer_book_lets(self):
        for drawings in (((0, 0, -1, 1),), ((0, 0, -1, 0), (0, 0, -1, 0)), ((0, 0, -1, 0), (0, 0, -1, 1)),
                         ((2, 1, 0, 1), (2, 1, 0, 1))):
            for phase in (0, 1, 2):
                self.same(type(LATE.nexts((phase, TILES, drawings))), list)
        for value in ((3, TILES, ()), (0, TILES, ((0, 0, -1, 1), (0, 0, -1, 0))), (0, TILES, ((0, 0, -1, True),)),
                      (0, TILES, ((2, 0, 0, 0), (0, 0, -1, 1))), (0, TILES, ((0, 0, -1, 0),) * 3)):
            self.fails(InvalidState(value), LATE.nexts, value)


class TooManyStates(Case):

    def test_tables_of_more_than_5000_states(self):
        book = Book(TALL, order="any", hands=2, alone=False, drop=True, unmark="end")
        self.fails(TooMany("states", 5000), System(book, (2, 0, 0), 3, 8, edits=2).table)

    def test_just_as_many_as_are_told_and_one_more(self):
        self.same(MOST_STATES, 5000)
        for system in (single(), LOOSE):
            many = len(system.table())
            with patch("onceseen.states.MOST_STATES", many):
                self.same(len(system.table()), many)
            with patch("onceseen.states.MOST_STATES", many - 1):
                self.fails(TooMany("states", many - 1), system.table)


class Comparing(Case):

    def test_equal_and_unequal(self):
        def systems():
            return [System(Book(margins, **cares), look, x, z, edits=edits)
                    for margins in (PLAIN, EDGED) for cares in ({}, {"order": "any"}) for look in ((1, 0, 0), (1, 0, 1))
                    for x, z in ((3, 4), (4, 3), (3, 3)) for edits in (1, 2)]
        for (at, one), (place, other) in product(enumerate(systems()), repeat=2):
            self.assertIs(one == other, at == place)
            self.assertIs(one != other, at != place)

    def test_values_of_another_kind(self):
        for other in (LOOSE.book, None, True, repr(LOOSE), System, (1, 0, 0), LOOSE.watched):
            self.assertFalse(LOOSE == other)
            self.assertTrue(LOOSE != other)

    def test_repr(self):
        self.assertEqual(repr(LOOSE), f"System({LOOSE.book!r}, (1, 0, 0), 3, 4, edits=1)")
        for system in (LOOSE, System(Book(TALL, drop=True), (2, -1, -1), -8, 0, edits=2), single()):
            self.assertEqual(eval(repr(system)), system)


class Interface(Case):

    def test_all_that_is_listed_stands_in_the_class_itself(self):
        self.stands_in(System, "onceseen.systems", ["__init__", "bundles", "start", "nexts", "goes_wrong", "table",
                                                    "__eq__", "__repr__"],
                       ["book", "look", "x", "z", "edits", "watched", "flags"])
        params = inspect.signature(System).parameters
        self.assertEqual(list(params), ["book", "look", "x", "z", "edits"])
        self.assertIs(params["edits"].kind, inspect.Parameter.KEYWORD_ONLY)
        self.takes(LOOSE.bundles, "kind")
        self.takes(LOOSE.nexts, "state")
        self.takes(LOOSE.goes_wrong, "state", "wish")

    def test_properties_are_not_assigned(self):
        for name in ("book", "look", "x", "z", "edits", "watched", "flags"):
            with self.assertRaises(AttributeError):
                setattr(LOOSE, name, True)

    def test_the_cares_by_themselves(self):
        self.same(Book(PLAIN).cares(), DEFAULTS)


if __name__ == "__main__":
    unittest.main()
