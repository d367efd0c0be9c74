"""Bad runs: deeds of a run of the book that end with the fault."""

import unittest

from onceseen.badruns import bad_run, is_bad_run
from onceseen.books import Book
from onceseen.errors import InvalidLook, InvalidWish, TooMany
from onceseen.ladders import Ladder
from onceseen.margins import Margins
from onceseen.runs import Run
from onceseen.systems import System
from tests.checking import FAR, NO_LISTS, Case, no_looks
from tests.test_certificates import BACK, GREAT, SINGLE, STALE, STRICT
from tests.test_runs_deeds import NO_DEEDS
from tests.test_systems import LOOSE, NO_WISHES, PLAIN, TALL

TORN = [("edit", 3, 4), ("begin", 0, 0), ("end", 0), ("begin", 1, 0), ("end", 0), ("look", 1, 0, 0)]


def shown(system, wish):
    """A bad run of the system, if it is one."""
    deeds = bad_run(system, wish)
    assert is_bad_run(system.book, system.look, wish, deeds), deeds
    return deeds


class BadRun(Case):

    def test_a_look_that_is_torn(self):
        deeds = shown(LOOSE, "whole")
        self.same([type(deeds), deeds[-1]], [list, ("look", 1, 0, 0)])
        run = Run(LOOSE.book)
        self.same(run.do_all(deeds)[-1], None)

    def test_none_where_no_state_goes_wrong(self):
        self.same(bad_run(STRICT, "whole"), None)
        self.same([bad_run(SINGLE, wish) for wish in ("whole", "fresh", "forward")], [None, None, None])
        self.same(bad_run(wish="forward", system=STALE), None)

    def test_a_tile_that_stays_old(self):
        deeds = shown(STALE, "fresh")
        run = Run(STALE.book)
        run.do_all(deeds)
        self.same([run.at_rest, run.version(0, 0, -1)], [True, 0])
        self.same(run.history.version(-1) > 0, True)

    def test_a_tile_that_goes_back(self):
        deeds = shown(BACK, "forward")
        run = Run(BACK.book)
        run.do_all(deeds[:-1])
        before = run.version(0, 0, 1)
        self.same([deeds[-1][0], run.do(deeds[-1]), run.version(0, 0, 1) < before], ["end", True, True])

    def test_two_edits(self):
        system = System(Book(PLAIN, wait=False), (0, 0, 1), 3, 4, edits=2)
        self.same(shown(system, "whole")[-1], ("look", 0, 0, 1))

    def test_tiles_that_are_not_watched_are_drawn_where_they_bar(self):
        # Of the tiles of level 0 only that of the cell 3 is watched, but the edit marks more of them.
        lacking = Margins(Ladder(4, [2, 2], [(0, 0), (0, 0), (1, 0)]), [(4, 4), (8, 8), (0, 0)])
        for order in ("finest", "settled"):
            for hands in (1, 2):
                system = System(Book(lacking, order=order, hands=hands), (2, 1, 1), 15, 15, edits=1)
                shown(system, "fresh")
        tall = System(Book(TALL, order="finest", hands=2, wait=False), (2, 0, 0), 1, 7, edits=1)
        shown(tall, "whole")

    def test_each_wish_with_drop_and_unmark_end(self):
        late = System(Book(PLAIN, unmark="end"), (0, 0, 0), 1, 1, edits=1)
        shown(late, "fresh")
        again = System(Book(PLAIN, hands=2, alone=False, unmark="end", drop=True), (1, 0, 0), 1, 1, edits=1)
        self.same([bad_run(again, "whole"), bad_run(again, "forward")], [None, None])

    def test_far_and_great_tiles(self):
        book = Book(Margins(Ladder(FAR, [2])), order="any", wait=False)
        system = System(book, (1, FAR, FAR), 2 * FAR * FAR, 2 * FAR * FAR + 2 * FAR - 1, edits=1)
        self.same(len(shown(system, "whole")), 6)

    def test_tables_that_are_too_great(self):
        self.fails(TooMany("states", 5000), bad_run, GREAT, "whole")

    def test_no_wish(self):
        for wish in NO_WISHES:
            for system in (SINGLE, LOOSE, GREAT):
                self.fails(InvalidWish(wish), bad_run, system, wish)
        for wish in ("fresh", "forward"):
            for system in (LOOSE, GREAT, System(LOOSE.book, (1, 0, 1), 3, 3, edits=1)):
                self.fails(InvalidWish(wish), bad_run, system, wish)


class IsBadRun(Case):

    def torn(self, value, book=LOOSE.book, look=(1, 0, 0)):
        return is_bad_run(book, look, "whole", value)

    def test_whole(self):
        self.same([self.torn(TORN), self.torn(tuple(TORN))], [True, True])
        self.same(is_bad_run(value=TORN, wish="whole", look=(1, 0, 0), book=LOOSE.book), True)
        for at in range(len(TORN)):
            self.same(self.torn(TORN[:at] + TORN[at + 1:]), False)
        self.same(self.torn(TORN + TORN[-1:]), True)
        self.same(self.torn(TORN + [("edit", 20, 20), ("look", 1, 0, 0)]), True)
        self.same(self.torn(TORN + [("edit", 20, 20)]), False)

    def test_a_look_at_just_these_tiles(self):
        self.same([self.torn(TORN[:-1] + [("look", 1, 0, 1)]), self.torn(TORN, look=(1, 0, 1))], [False, False])
        self.same(self.torn(TORN[:-1] + [("look", 1, 0, 1)], look=(1, 0, 1)), True)
        self.same(self.torn(TORN[:-1] + [("look", 0, 0, 0)]), False)
        self.same(self.torn(TORN[:3] + [("look", 0, 0, 1)], look=(0, 0, 1)), True)

    def test_looks_on_the_way(self):
        self.same(self.torn(TORN[:3] + [("look", 0, 5, 6), ("look", 1, 0, 0)] + TORN[3:]), True)
        self.same(self.torn(TORN[:3] + [("look", 2, 0, 0)] + TORN[3:]), False)

    def test_looks_that_must_wait_are_no_deeds(self):
        waiting = LOOSE.book.with_care("wait", True)
        self.same(self.torn(TORN, waiting), True)
        self.same(self.torn(TORN[:3] + [("look", 0, 0, 1)], waiting, (0, 0, 1)), False)
        self.same(self.torn(TORN[:1] + [("look", 0, 0, 0)] + TORN[1:], waiting), False)

    def test_deeds_that_the_run_refuses(self):
        self.same(self.torn(TORN, Book(PLAIN, wait=False)), False)
        for wrong in (("begin", 0, 9), ("end", 0), ("end", 1), ("edit", 4, 3), ("edit", 0, 9999), ("begin", 2, 0),
                      ("look", 9, 0, 0)):
            self.same(self.torn([wrong] + TORN), False)
            self.same(self.torn(TORN[:3] + [wrong] + TORN[3:]), False)

    def test_fresh(self):
        lacking = Book(Margins(Ladder(4, [], [(1, 0)]), [(0, 0)]))
        deeds = [("edit", 3, 3), ("begin", 0, 0), ("end", 0)]
        stale = [is_bad_run(lacking, (0, tile, tile), "fresh", deeds) for tile in (0, 1, 2)]
        self.same(stale, [False, True, False])
        self.same(is_bad_run(lacking, (0, 1, 1), "fresh", deeds + [("look", 0, 7, 8)]), True)
        self.same(is_bad_run(lacking, (0, 1, 1), "fresh", deeds[:2]), False)
        self.same(is_bad_run(lacking, (0, 1, 1), "fresh", deeds[:1]), False)
        self.same(is_bad_run(lacking, (0, 1, 1), "fresh", [("look", 0, 1, 1)]), False)
        self.same(is_bad_run(lacking, (0, 1, 1), "fresh", deeds + [("edit", 4, 4)]), False)
        again = [("edit", 4, 4), ("begin", 0, 1), ("end", 0)]
        self.same(is_bad_run(lacking, (0, 1, 1), "fresh", deeds + again), False)

    def test_fresh_where_what_is_shown_is_of_no_moment(self):
        # The tile 1 shows the later edit of the cell 7, but not the edit of the cell 3.
        lacking = Book(Margins(Ladder(4, [], [(1, 0)]), [(0, 0)]))
        deeds = [("edit", 7, 7), ("begin", 0, 1), ("end", 0), ("edit", 3, 3), ("begin", 0, 0), ("end", 0)]
        self.same(is_bad_run(lacking, (0, 1, 1), "fresh", deeds), True)
        torn = [("edit", 3, 4)] + [deed for tile in (0, 1) for deed in (("begin", 0, tile), ("end", 0))]
        book = LOOSE.book
        self.same(is_bad_run(book, (1, 0, 0), "fresh", TORN[:5] + torn[3:]), True)
        self.same(is_bad_run(book, (0, 0, 0), "fresh", TORN[:5] + torn[3:]), False)

    def test_forward(self):
        back = BACK.book
        deeds = [("edit", 1, 1), ("begin", 0, 0), ("edit", 1, 1), ("begin", 0, 0), ("end", 1), ("edit", 0, 0),
                 ("end", 0)]
        self.same(is_bad_run(back, (0, 0, 0), "forward", deeds), True)
        self.same(is_bad_run(back, (0, 1, 1), "forward", deeds), False)
        self.same(is_bad_run(back, (1, 0, 0), "forward", deeds), False)
        self.same(is_bad_run(back, (0, 0, 0), "forward", deeds + [("look", 0, 5, 5)]), False)
        self.same(is_bad_run(back, (0, 0, 0), "forward", deeds[:-1]), False)
        self.same(is_bad_run(back, (0, 0, 0), "forward", deeds[:4] + [("end", 0)]), False)
        dropping = back.with_care("drop", True)
        self.same(is_bad_run(dropping, (0, 0, 0), "forward", deeds), False)

    def test_forward_in_one_cell_of_many(self):
        deeds = [("edit", 0, 0), ("begin", 0, 0), ("edit", 3, 3), ("begin", 0, 0), ("end", 1), ("edit", 2, 2),
                 ("end", 0)]
        self.same(is_bad_run(BACK.book, (0, 0, 0), "forward", deeds), True)
        ahead = [("edit", 0, 0), ("begin", 0, 0), ("edit", 5, 5), ("edit", 1, 1), ("begin", 0, 0), ("end", 0),
                 ("end", 1)]
        self.same(is_bad_run(BACK.book, (0, 0, 0), "forward", ahead), False)

    def test_values_of_other_kinds(self):
        for value in NO_LISTS + [[], (), "edit 3 4", TORN[0], [TORN], dict(enumerate(TORN))]:
            for wish in ("whole", "fresh", "forward"):
                self.same(is_bad_run(LOOSE.book, (1, 0, 0), wish, value), False)

    def test_values_that_are_no_deeds(self):
        for wrong in NO_DEEDS:
            for at in (0, 3, 5, 6):
                self.same(self.torn(TORN[:at] + [wrong] + TORN[at:]), False)
        self.same(self.torn(TORN[:5] + [("look", True, 0, 0)]), False)
        self.same(self.torn(TORN[:5] + [["look", 1, 0, 0]]), False)
        self.same(self.torn(TORN[:5] + [("look", 1, False, 0)]), False)

    def test_true_for_1(self):
        deeds = [("edit", 1, 1), ("begin", 0, 0), ("edit", 1, 1), ("begin", 0, 0), ("end", 1), ("edit", 0, 0)]
        self.same(is_bad_run(BACK.book, (0, 0, 0), "forward", deeds + [("end", 0)]), True)
        self.same(is_bad_run(BACK.book, (0, 0, 0), "forward", deeds + [("end", False)]), False)

    def test_errors(self):
        book = LOOSE.book
        for look in no_looks(2):
            self.fails(InvalidLook(look), is_bad_run, book, look, None, None)
        for wish in NO_WISHES:
            self.fails(InvalidWish(wish), is_bad_run, book, (1, 0, 0), wish, None)
            self.fails(InvalidWish(wish), is_bad_run, book, (1, 0, 1), wish, TORN)
        for wish in ("fresh", "forward"):
            self.fails(InvalidWish(wish), is_bad_run, book, (1, 0, 1), wish, TORN)
            self.same(is_bad_run(book, (1, 0, 0), wish, TORN), False)

    def test_a_long_run(self):
        deeds = [("edit", 3, 4)] * 600 + TORN
        self.same(self.torn(deeds), True)
        self.same(len(shown(System(Book(PLAIN, order="any"), (1, 0, 0), 3, 4, edits=1), "whole")) < 20, True)

    def test_the_value_stays_as_it_was(self):
        kept = list(TORN)
        self.torn(kept)
        self.same(kept, TORN)


class Interface(Case):

    def test_the_names_of_the_parameters(self):
        self.takes(bad_run, "system", "wish")
        self.takes(is_bad_run, "book", "look", "wish", "value")


if __name__ == "__main__":
    unittest.main()
