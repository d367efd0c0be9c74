"""Cares: safe books, the freest of them, needless cares and mends."""

import random
import unittest
from itertools import product

from onceseen.books import Book
from onceseen.cares import freest, is_safe, mends, needless
from onceseen.certificates import never
from onceseen.errors import InvalidCell, InvalidLook, InvalidWish, NotHeld, NotSafe, TooMany
from onceseen.ladders import Ladder
from onceseen.margins import Margins
from onceseen.systems import System
from tests.checking import FAR, NO_INTEGERS, Case, no_looks
from tests.drawing import drawn_book, drawn_cell, drawn_look
from tests.test_books import ALL_CARES, DEFAULTS, WORDS, plain_stricter
from tests.test_systems import NO_WISHES, PLAIN, TALL

ALL = (is_safe, freest, needless, mends)
LACKING = Margins(Ladder(4, [], [(1, 0)]), [(0, 0)])
LOOK = (1, 0, 0)
FREEST = {"order": "any", "hands": 2, "alone": False, "wait": False}


def plain_safe(book, wish, look, x, z):
    """Whether the book is safe, by the words; TooMany if a table of any of its systems is too great."""
    told = [never(System(book, look, x, z, edits=edits), wish) for edits in ((1, 2) if wish == "whole" else (1,))]
    return all(told)


def plain_freest(book, wish, look, x, z):
    """The freest cares, by the words, in the sequence of the document."""
    rows = [{**book.cares(), "order": order, "hands": hands, "alone": alone, "wait": wait}
            for order, hands, alone, wait in product(("settled", "finest", "any"), (1, 2), (True, False),
                                                     (True, False))]
    safe = [cares for cares in rows if plain_safe(Book(book.margins, **cares), wish, look, x, z)]
    return [cares for cares in safe
            if not any(plain_stricter(cares, other) for other in safe if other is not cares)]


def plain_mends(book, wish, look, x, z):
    rows = [{**book.cares(), name: word} for name, words in WORDS.items() for word in words]
    return [cares for cares in rows
            if cares != book.cares() and plain_safe(Book(book.margins, **cares), wish, look, x, z)]


def plain_needless(book, wish, look, x, z):
    names = [name for name, word in FREEST.items() if book.cares()[name] != word]
    return sorted(name for name in names if plain_safe(book.with_care(name, FREEST[name]), wish, look, x, z))


class Safe(Case):

    def test_by_hand(self):
        self.same(is_safe(Book(PLAIN), "whole", LOOK, 3, 4), True)
        self.same(is_safe(Book(PLAIN, order="any"), "whole", LOOK, 3, 4), False)
        self.same([is_safe(Book(LACKING), wish, (0, 0, 0), -1, -1) for wish in ("whole", "fresh", "forward")],
                  [True, False, True])
        self.same(is_safe(z=4, x=3, look=LOOK, wish="whole", book=Book(PLAIN, wait=False)), True)

    def test_with_one_edit_alone_it_goes_wrong(self):
        # An edit of the cells 0 to 3 does not mark the tile 1, which holds the cell 3; so the look has both cells at
        # the tile 0 and lacks the later one at the tile 1. With two edits it would have to lack the cell 0.
        passed = (Book(LACKING), "whole", (0, 0, 1), 0, 3)
        system, two = (System(passed[0], (0, 0, 1), 0, 3, edits=edits) for edits in (1, 2))
        self.same([never(system, "whole"), never(two, "whole"), is_safe(*passed)], [False, True, False])
        self.fails(NotSafe(), needless, *passed)
        self.same([freest(*passed), mends(*passed)], [[], []])
        self.same(is_safe(Book(LACKING), "whole", (0, 0, 1), 3, 0), False)

    def test_with_two_edits_alone_it_goes_wrong(self):
        # A single edit of both cells marks both tiles; of two edits the first one may be lacking for ever.
        book = Book(Margins(Ladder(4, [], [(1, 1)]), [(1, 0)]), wait=True)
        found = [(look, x, z) for look in ((0, 0, 0), (0, 0, 1)) for x in range(-1, 9) for z in range(-1, 9)
                 if book.ladder.held(0, look[1])[0] <= min(x, z) and max(x, z) <= book.ladder.held(0, look[2])[1]
                 and never(System(book, look, x, z, edits=1), "whole")
                 and not never(System(book, look, x, z, edits=2), "whole")]
        self.assertGreater(len(found), 0)
        for look, x, z in found:
            self.same(is_safe(book, "whole", look, x, z), False)

    def test_stricter_books_are_safe_too(self):
        for wish, x in (("whole", 4), ("fresh", 3), ("forward", 3)):
            safe = {number: is_safe(Book(PLAIN, **cares), wish, LOOK, 3, x) for number, cares in enumerate(ALL_CARES)}
            for (number, one), (other_number, other) in product(enumerate(ALL_CARES), repeat=2):
                if plain_stricter(one, other) and safe[other_number]:
                    self.assertTrue(safe[number], (wish, one, other))
            self.same(sorted(set(safe.values())), [False, True])


class Plain(Case):

    def test_small_books_by_the_words(self):
        told = {"freest": 0, "needless": 0, "mends": 0, "too many": 0}
        for number in range(150):
            draw = random.Random(number)
            book = drawn_book(draw, False)
            look = drawn_look(draw, book, draw.choice((0, 0, book.ladder.levels - 1)))
            x = drawn_cell(draw, book, look)
            z = x if draw.random() < 0.6 else drawn_cell(draw, book, look)
            wish = draw.choice(("whole", "fresh", "forward") if x == z and look[1] == look[2] else ("whole",))
            passed = (book, wish, look, x, z)
            try:
                expected = plain_freest(*passed)
            except TooMany:
                told["too many"] += 1
                self.fails(TooMany("states", 5000), freest, *passed)
                continue
            books = freest(*passed)
            self.same([other.cares() for other in books], expected)
            self.assertTrue(all(type(other) is Book and other.margins == book.margins for other in books))
            told["freest"] += len(expected) > 0
            if plain_safe(*passed):
                self.same(is_safe(*passed), True)
                self.same(needless(*passed), plain_needless(*passed))
                told["needless"] += len(plain_needless(*passed)) > 0
            else:
                self.same(is_safe(*passed), False)
                self.fails(NotSafe(), needless, *passed)
            try:
                expected = plain_mends(*passed)
            except TooMany:
                self.fails(TooMany("states", 5000), mends, *passed)
                continue
            self.same([other.cares() for other in mends(*passed)], expected)
            told["mends"] += len(expected) > 0
        self.assertGreater(min(told.values()), 4, told)


class ByHand(Case):

    def test_freest(self):
        books = freest(Book(PLAIN, order="any"), "whole", LOOK, 3, 4)
        self.same([other.cares() for other in books], [
            {**DEFAULTS, "hands": 2, "wait": False},
            {**DEFAULTS, "order": "finest", "alone": False, "wait": False}])
        self.same(freest(Book(LACKING), "fresh", (0, 0, 0), -1, -1), [])
        single = freest(z=1, x=1, look=(0, 0, 0), wish="fresh", book=Book(PLAIN))
        free = {**DEFAULTS, "order": "any", "wait": False}
        self.same([other.cares() for other in single], [{**free, "alone": False}, {**free, "hands": 2}])

    def test_the_given_margins_source_unmark_and_drop_stay(self):
        for source, unmark, drop in product(("finer", "drawing"), ("begin", "end"), (True, False)):
            book = Book(PLAIN, source=source, unmark=unmark, drop=drop, wait=False, hands=2)
            for other in freest(book, "whole", (0, 0, 0), 1, 2):
                self.assertEqual(other.margins, PLAIN)
                self.same([other.source, other.unmark, other.drop], [source, unmark, drop])

    def test_needless(self):
        self.same(needless(Book(PLAIN), "whole", LOOK, 3, 4), ["alone", "hands", "wait"])
        self.same(needless(Book(PLAIN), "fresh", (0, 0, 0), 1, 1), ["alone", "hands", "order", "wait"])
        self.same(needless(Book(PLAIN, order="any", hands=2, wait=False), "fresh", (0, 0, 0), 1, 1), [])
        free = Book(PLAIN, order="any", hands=2, wait=False, alone=False)
        self.same(needless(free, "whole", (0, 0, 0), 1, 1), [])
        self.same(needless(z=1, x=1, look=(0, 0, 0), wish="whole", book=free.with_care("hands", 1)), ["hands"])

    def test_a_book_that_is_not_safe(self):
        for book in (Book(PLAIN, order="any"), Book(PLAIN, order="any", wait=False)):
            self.fails(NotSafe(), needless, book, "whole", LOOK, 3, 4)
        self.fails(NotSafe(), needless, Book(LACKING), "fresh", (0, 0, 0), -1, -1)

    def test_mends(self):
        loose = Book(PLAIN, order="any")
        books = mends(loose, "whole", LOOK, 3, 4)
        self.same([other.cares() for other in books],
                  [{**DEFAULTS, "order": "any", "source": "drawing"}, {**DEFAULTS, "order": "finest"}, DEFAULTS])
        late = Book(PLAIN, unmark="end")
        self.same([other.cares() for other in mends(z=1, x=1, look=(0, 0, 0), wish="fresh", book=late)],
                  [DEFAULTS, {**DEFAULTS, "unmark": "end", "drop": True}])
        self.same(mends(Book(LACKING), "fresh", (0, 0, 0), -1, -1), [])

    def test_mends_of_a_book_that_is_safe(self):
        books = mends(Book(PLAIN), "fresh", (0, 0, 0), 1, 1)
        self.same([other.cares() for other in books], [
            {**DEFAULTS, "source": "drawing"}, {**DEFAULTS, "order": "any"}, {**DEFAULTS, "order": "finest"},
            {**DEFAULTS, "drop": True}, {**DEFAULTS, "hands": 2}, {**DEFAULTS, "alone": False},
            {**DEFAULTS, "wait": False}])

    def test_great_tiles(self):
        great, look = Book(PLAIN * FAR, order="any"), (1, -FAR, -FAR)
        first = -8 * FAR * FAR
        self.same([other.order for other in mends(great, "whole", look, first, first + 4 * FAR)],
                  ["any", "finest", "settled"])

    def test_returned_lists_are_new(self):
        passed = (Book(PLAIN), "fresh", (0, 0, 0), 1, 1)
        for call in (freest, needless, mends):
            kept = call(*passed)
            call(*passed).clear()
            self.assertEqual(call(*passed), kept)


class Errors(Case):

    def test_looks(self):
        for call, book in product(ALL, (Book(PLAIN), Book(TALL))):
            for look in no_looks(book.ladder.levels):
                self.fails(InvalidLook(look), call, book, "none", look, None, None)

    def test_cells(self):
        for call, value in product(ALL, NO_INTEGERS):
            self.fails(InvalidCell(value), call, Book(PLAIN), "none", LOOK, value, None)
            self.fails(InvalidCell(value), call, Book(PLAIN), "none", LOOK, 99, value)

    def test_wishes_by_themselves_come_ahead_of_cells_that_are_not_held(self):
        for call, wish in product(ALL, NO_WISHES):
            self.fails(InvalidWish(wish), call, Book(PLAIN), wish, LOOK, 99, 99)
            self.fails(InvalidWish(wish), call, Book(PLAIN), wish, LOOK, 3, 4)

    def test_cells_that_are_not_held(self):
        for call, wish in product(ALL, ("whole", "fresh", "forward")):
            self.fails(NotHeld(1, 0, 8), call, Book(PLAIN), wish, LOOK, 8, -1)
            self.fails(NotHeld(1, 0, -1), call, Book(PLAIN), wish, LOOK, 7, -1)
            self.fails(NotHeld(1, -2, FAR), call, Book(PLAIN), wish, (1, -2, -1), -1, FAR)

    def test_wishes_that_do_not_go_with_the_cells_and_the_look(self):
        for call, wish in product(ALL, ("fresh", "forward")):
            self.fails(InvalidWish(wish), call, Book(PLAIN), wish, LOOK, 3, 4)
            self.fails(InvalidWish(wish), call, Book(PLAIN), wish, (1, 0, 1), 3, 3)
            self.fails(InvalidWish(wish), call, Book(PLAIN, order="any"), wish, (0, 0, 1), 3, 4)

    def test_tables_that_are_too_great(self):
        great = Book(TALL, order="any", hands=2, alone=False, drop=True, unmark="end")
        for call in ALL:
            self.fails(TooMany("states", 5000), call, great, "whole", (2, 0, 0), 3, 7)

    def test_the_table_of_another_book_is_too_great(self):
        strict = Book(Margins(Ladder(1, [2, 2])))
        passed = ("whole", (2, 0, 0), 0, 3)
        self.same(is_safe(strict, *passed), True)
        self.fails(TooMany("states", 5000), freest, strict, *passed)
        # Not a single other word makes a table too great.
        self.assertEqual(needless(strict, *passed), plain_needless(strict, *passed))
        two = strict.with_care("hands", 2)
        self.same(is_safe(two, *passed), True)
        self.fails(TooMany("states", 5000), mends, two, *passed)
        self.fails(TooMany("states", 5000), needless, two, *passed)

    def test_a_book_that_is_not_safe_comes_behind_its_own_table_and_ahead_of_others(self):
        torn = Book(Margins(Ladder(1, [2, 2])), order="finest", hands=2)
        passed = ("whole", (2, 0, 0), 0, 3)
        self.same(is_safe(torn, *passed), False)
        self.fails(TooMany("states", 5000), is_safe, torn.with_care("alone", False), *passed)
        self.fails(NotSafe(), needless, torn, *passed)
        self.fails(TooMany("states", 5000), mends, torn, *passed)


class Interface(Case):

    def test_the_names_of_the_parameters(self):
        for call in ALL:
            self.takes(call, "book", "wish", "look", "x", "z")


if __name__ == "__main__":
    unittest.main()
