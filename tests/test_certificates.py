"""Certificates: whether a system never goes wrong, and the lists of states that show it."""

import unittest

from onceseen.books import Book
from onceseen.certificates import is_certificate, never, wrong_states
from onceseen.errors import InvalidWish, TooMany
from onceseen.ladders import Ladder
from onceseen.margins import Margins
from onceseen.systems import System
from tests.checking import NO_LISTS, Case
from tests.test_systems import LOOSE, NO_STATES, NO_WISHES, PLAIN, TALL, TWO

STRICT = System(Book(PLAIN), (1, 0, 0), 3, 4, edits=1)
SINGLE = System(Book(PLAIN), (0, 0, 0), 1, 1, edits=1)
BACK = System(Book(PLAIN, hands=2, alone=False, unmark="end"), (0, 0, 0), 1, 1, edits=1)
STALE = System(Book(Margins(Ladder(4, [], [(1, 0)]), [(0, 0)])), (0, 0, 0), -1, -1, edits=1)
GREAT = System(Book(TALL, order="any", hands=2, alone=False, drop=True, unmark="end"), (2, 0, 0), 3, 8, edits=2)


class Never(Case):

    def test_the_printed_values(self):
        self.same([never(LOOSE, "whole"), never(STRICT, "whole")], [False, True])

    def test_each_wish(self):
        self.same([never(SINGLE, wish) for wish in ("whole", "fresh", "forward")], [True, True, True])
        self.same([never(BACK, wish) for wish in ("whole", "fresh", "forward")], [True, False, False])
        self.same([never(STALE, wish) for wish in ("whole", "fresh", "forward")], [True, False, True])
        self.same(never(wish="fresh", system=SINGLE), True)

    def test_wrong_states(self):
        self.same(wrong_states(STRICT, "whole"), [])
        # No mark comes but by chance, so that nothing is marked and the tile lacks what was done.
        self.same(wrong_states(STALE, "fresh"), [(1, ((0, 0, 0),), ())])
        states = wrong_states(wish="whole", system=LOOSE)
        self.same(states, [state for state in LOOSE.table() if LOOSE.goes_wrong(state, "whole")])
        self.assertGreater(len(states), 2)
        states.clear()
        self.assertGreater(len(wrong_states(LOOSE, "whole")), 2)

    def test_a_mark_that_came_behind_the_begin_is_taken_away(self):
        late = System(Book(PLAIN, unmark="end"), (0, 0, 0), 1, 1, edits=1)
        self.same([never(late, "fresh"), never(late, "forward")], [False, True])
        self.same(wrong_states(late, "fresh"), [(1, ((0, 0, 0),), ())])
        dropped = System(Book(PLAIN, unmark="end", drop=True), (0, 0, 0), 1, 1, edits=1)
        self.same([never(dropped, "fresh"), never(dropped, "forward")], [True, True])

    def test_tables_that_are_too_great(self):
        # This one goes wrong, too.
        self.fails(TooMany("states", 5000), never, GREAT, "whole")
        self.fails(TooMany("states", 5000), wrong_states, GREAT, "whole")

    def test_no_wish(self):
        for wish in NO_WISHES:
            for system in (SINGLE, LOOSE, GREAT):
                self.fails(InvalidWish(wish), never, system, wish)
                self.fails(InvalidWish(wish), wrong_states, system, wish)
                self.fails(InvalidWish(wish), is_certificate, system, wish, None)

    def test_wishes_that_a_system_does_not_have(self):
        book = Book(PLAIN)
        for system in (STRICT, GREAT, System(book, (0, 0, 0), 1, 1, edits=2), System(book, (0, 0, 1), 1, 1, edits=1),
                       System(book, (0, 0, 0), 1, 2, edits=1)):
            for wish in ("fresh", "forward"):
                self.fails(InvalidWish(wish), never, system, wish)
                self.fails(InvalidWish(wish), wrong_states, system, wish)
                self.fails(InvalidWish(wish), is_certificate, system, wish, [])


class IsCertificate(Case):

    def test_tables_of_systems_that_never_go_wrong(self):
        for system, wish in ((STRICT, "whole"), (SINGLE, "whole"), (SINGLE, "fresh"), (SINGLE, "forward"),
                             (STALE, "forward")):
            table = system.table()
            self.same(is_certificate(system, wish, table), True)
            self.same(is_certificate(value=tuple(table[::-1]), wish=wish, system=system), True)
            self.same(is_certificate(system, wish, table + table[:3]), True)

    def test_a_state_less(self):
        for system, wish in ((SINGLE, "fresh"), (STRICT, "whole")):
            table = system.table()
            for at in range(0, len(table), 1 + len(table) // 30):
                self.same(is_certificate(system, wish, table[:at] + table[at + 1:]), False)

    def test_a_state_more(self):
        table = SINGLE.table()
        # A tile that has the edit ahead of it leads to other states that no deed leads to from the start.
        self.same(is_certificate(SINGLE, "whole", table + [(0, ((0, 1, 1),), ())]), False)
        closed, fresh = list(table), [(0, ((0, 1, 1),), ())]
        while fresh:
            state = fresh.pop()
            if state not in closed:
                closed.append(state)
                fresh.extend(SINGLE.nexts(state))
        self.same(is_certificate(SINGLE, "whole", closed), True)
        # They include one in which what was read ahead of the edit would be put in place of it.
        self.same([is_certificate(SINGLE, wish, closed) for wish in ("fresh", "forward")], [True, False])

    def test_tables_of_systems_that_go_wrong(self):
        self.same(is_certificate(LOOSE, "whole", LOOSE.table()), False)
        right = [state for state in LOOSE.table() if not LOOSE.goes_wrong(state, "whole")]
        self.same(is_certificate(LOOSE, "whole", right), False)
        self.same(is_certificate(BACK, "forward", BACK.table()), False)
        self.same(is_certificate(BACK, "whole", BACK.table()), True)
        self.same(is_certificate(STALE, "fresh", STALE.table()), False)

    def test_the_start_alone_and_nothing(self):
        for system in (SINGLE, STRICT, LOOSE):
            self.same(is_certificate(system, "whole", [system.start()]), False)
            self.same(is_certificate(system, "whole", []), False)
            self.same(is_certificate(system, "whole", ()), False)

    def test_a_closed_list_without_the_start(self):
        later = [state for state in SINGLE.table() if state[0] == 1]
        self.same(is_certificate(SINGLE, "whole", later), False)

    def test_values_of_other_kinds(self):
        for value in NO_LISTS + ["table", b"table", SINGLE, {state: True for state in SINGLE.table()}]:
            self.same(is_certificate(SINGLE, "whole", value), False)

    def test_values_that_are_no_states(self):
        table = STRICT.table()
        for value in NO_STATES:
            self.same(is_certificate(TWO, "whole", [TWO.start(), value]), False)
        for value in (None, True, [*table[0]], table[0][:2], (False, *table[0][1:])):
            self.same(is_certificate(STRICT, "whole", table + [value]), False)
            self.same(is_certificate(STRICT, "whole", [value] + table[1:]), False)

    def test_true_for_1(self):
        table = SINGLE.table()
        turned = [(bool(phase), tiles, drawings) for phase, tiles, drawings in table]
        self.same(turned == table, True)
        self.same(is_certificate(SINGLE, "whole", turned), False)

    def test_the_table_of_another_system(self):
        other = System(Book(PLAIN, hands=2), (1, 0, 0), 3, 4, edits=1)
        self.same(is_certificate(STRICT, "whole", other.table()), False)
        self.same(is_certificate(other, "whole", STRICT.table()), False)

    def test_papers_are_checked_without_a_search(self):
        # The table is too great to be told, but states are looked at one by one.
        self.same(is_certificate(GREAT, "whole", [GREAT.start()]), False)


class Interface(Case):

    def test_the_names_of_the_parameters(self):
        self.takes(never, "system", "wish")
        self.takes(wrong_states, "system", "wish")
        self.takes(is_certificate, "system", "wish", "value")


if __name__ == "__main__":
    unittest.main()
