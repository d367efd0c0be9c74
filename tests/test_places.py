"""Places: ends, kinds of systems, and what a book keeps at all cells."""

import inspect
import random
import unittest
from itertools import product

from onceseen.books import Book
from onceseen.certificates import wrong_states
from onceseen.errors import InvalidCell, InvalidCount, InvalidLevel, InvalidWish, TooMany
from onceseen.ladders import Ladder
from onceseen.margins import Margins
from onceseen.places import are_like, ends, first_fault, keeps, kinds, place_of, places
from onceseen.systems import System
from tests.checking import FAR, NO_INTEGERS, Case, no_levels
from tests.drawing import drawn_book, drawn_margins, drawn_system
from tests.test_books import ALL_CARES
from tests.test_systems import NO_WISHES, PLAIN, TALL

EDGED = Margins(Ladder(8, [2], [(1, 2), (0, 0)]), [(3, 4), (0, 0)])
MANY_ENDS = Margins(Ladder(9, [2, 2], [(1, 2), (3, 4), (5, 6)]))
ALL = [("whole", 1), ("whole", 2), ("fresh", 1), ("forward", 1)]


def plain_ends(book, level, cells):
    """The ends among the cells, by the words of the document."""
    found = []
    for cell in cells:
        for lower in range(level + 1):
            low, high = book.ladder.edge(lower)
            back, ahead = book.margins.pair(lower)
            if any((cell - corner) % book.ladder.side(lower) == 0 for corner in (0, -low, high, back, -ahead)):
                found.append(cell)
                break
    return found


def held(book, level, width):
    """The cells that the look (level, 0, width - 1) holds."""
    return range(book.ladder.held(level, 0)[0], book.ladder.held(level, width - 1)[1] + 1)


class Ends(Case):

    def test_by_hand(self):
        book = Book(EDGED)
        self.same(ends(book, 0), [0, 2, 3, 4, 7])
        self.same(ends(book, 1), [0, 2, 3, 4, 7, 8, 10, 11, 12, 15])
        self.same(ends(level=0, book=Book(PLAIN)), [0])
        self.same(ends(Book(PLAIN), 1), [0, 4])
        self.same(ends(Book(TALL), 2), [0, 1, 2, 3, 4, 6, 7])

    def test_those_of_levels_above_do_not_count(self):
        margins = Margins(Ladder(4, [2], [(0, 0), (3, 1)]))
        self.same([ends(Book(margins), 0), ends(Book(margins), 1)], [[0], [0, 1, 4, 5]])

    def test_all_cells_of_a_side(self):
        for number in range(150):
            book = drawn_book(random.Random(number))
            for level in range(book.ladder.levels):
                self.same(ends(book, level), plain_ends(book, level, range(book.ladder.side(level))))

    def test_great_sides(self):
        margins = Margins(Ladder(FAR, [2], [(1, 0), (0, FAR)]), [(5, 7), (2 * FAR, 3)])
        self.same(ends(Book(margins), 0), [0, 5, FAR - 7, FAR - 1])
        self.same(ends(Book(margins), 1),
                  [0, 5, FAR - 7, FAR - 1, FAR, FAR + 5, 2 * FAR - 7, 2 * FAR - 3, 2 * FAR - 1])

    def test_no_level(self):
        for book in (Book(PLAIN), Book(TALL)):
            self.fails_always(InvalidLevel, lambda level: ends(book, level), no_levels(book.ladder.levels))

    def test_returned_lists_are_new(self):
        ends(Book(PLAIN), 1).append(9)
        self.same(ends(Book(PLAIN), 1), [0, 4])


class PlaceOf(Case):

    def test_by_hand(self):
        book = Book(EDGED)
        self.same([place_of(book, 0, cell) for cell in (-9, -1, 0, 1, 2, 5, 6, 7, 8)], [-9, -1, 0, 0, 2, 4, 4, 7, 8])
        self.same(place_of(cell=7 * FAR + 6, level=1, book=Book(PLAIN)), (7 * FAR + 6) // 4 * 4)

    def test_all_cells_near_by(self):
        for number in range(60):
            book = drawn_book(random.Random(number))
            for level in range(book.ladder.levels):
                period = book.ladder.side(level)
                found = plain_ends(book, level, range(-3 * period, 2 * period))
                for cell in range(-period, period):
                    self.same(place_of(book, level, cell), max(end for end in found if end <= cell))
                    self.same(place_of(book, level, cell + FAR * period), place_of(book, level, cell) + FAR * period)

    def test_errors(self):
        book = Book(PLAIN)
        for level in no_levels(2):
            self.fails(InvalidLevel(level), place_of, book, level, None)
        for cell in NO_INTEGERS:
            self.fails(InvalidCell(cell), place_of, book, 1, cell)

    def test_a_cell_can_be_replaced_by_its_place(self):
        for number in range(200):
            draw = random.Random(number)
            one = drawn_system(draw)
            level = one.look[0]
            x, z = place_of(one.book, level, one.x), place_of(one.book, level, one.z)
            other = System(one.book, one.look, x, z, edits=one.edits)
            self.same([one.watched, one.flags], [other.watched, other.flags])
            self.same([one.bundles(kind) for kind in range(3)], [other.bundles(kind) for kind in range(3)])
            self.same(are_like(one, other), True)


class Places(Case):

    def test_by_hand(self):
        book = Book(PLAIN)
        self.same(list(places(book, 0)), [(0, 0)])
        self.same(list(places(book, 1)), [(0, 0), (0, 4), (4, 0), (4, 4)])
        self.same(list(places(book, 0, 2)), [(0, 0), (0, 4), (4, 0), (4, 4)])
        self.same(list(places(width=1, level=0, book=Book(Margins(Ladder(4, [], [(1, 0)]))))),
                  [(-1, -1), (-1, 0), (-1, 3), (0, -1), (0, 0), (0, 3), (3, -1), (3, 0), (3, 3)])

    def test_all_cells_that_a_look_holds(self):
        for number in range(80):
            book = drawn_book(random.Random(number))
            for level in range(book.ladder.levels):
                for width in ((1, 2) if level < 2 else (1,)):
                    found = plain_ends(book, level, held(book, level, width))
                    self.same(list(places(book, level, width)), sorted(product(found, repeat=2)))

    def test_it_is_a_generator(self):
        self.assertTrue(inspect.isgeneratorfunction(places))
        told = places(Book(PLAIN), 1)
        self.same([next(told), next(told), list(told), list(told)], [(0, 0), (0, 4), [(4, 0), (4, 4)], []])

    def test_errors_come_when_the_iteration_begins(self):
        book = Book(TALL)
        for level in no_levels(3):
            self.fails(InvalidLevel(level), lambda: list(places(book, level, None)))
        for width in NO_INTEGERS + [0, 3, -1, FAR]:
            for level in (0, 1, 2):
                self.fails(InvalidCount(width), lambda: next(places(book, level, width)))
        self.fails(InvalidCount(2), lambda: list(places(book, 2, 2)))
        self.same(len(list(places(book, 1, 2))) > 0, True)

    def test_more_than_16_ends_do_not_matter_here(self):
        self.same(len(list(places(Book(MANY_ENDS), 2))) > 256, True)


class AreLike(Case):

    def both(self, one, other):
        self.assertIs(are_like(one, other), are_like(other, one))
        return are_like(one, other)

    def test_far_and_great_ones(self):
        one = System(Book(PLAIN), (1, 0, 0), 3, 4, edits=1)
        self.same(self.both(one, one), True)
        self.same(self.both(one, System(Book(PLAIN), (1, 5, 5), 41, 46, edits=1)), True)
        first = -8 * FAR * FAR
        other = System(Book(PLAIN * FAR), (1, -FAR, -FAR), first, first + 4 * FAR, edits=1)
        self.same([self.both(one, other), one.table() == other.table()], [True, True])
        self.same(are_like(other=one, one=System(Book(Margins(Ladder(9, [2]))), (1, 0, 0), 8, 17, edits=1)), True)
        self.same(are_like(System(Book(Margins(Ladder(9, [4]))), (1, 0, 0), 9, 18, edits=1), one), False)

    def test_other_cares(self):
        systems = [System(Book(PLAIN, **cares), (1, 0, 0), 3, 4, edits=1) for cares in ALL_CARES[::5]]
        for (at, one), (place, other) in product(enumerate(systems), repeat=2):
            self.assertIs(are_like(one, other), at == place)

    def test_other_edits_cells_levels_and_looks(self):
        book = Book(PLAIN, wait=False)
        systems = [
            System(book, (1, 0, 0), 3, 4, edits=1), System(book, (1, 0, 0), 3, 4, edits=2),
            System(book, (1, 0, 0), 4, 3, edits=1), System(book, (1, 0, 0), 3, 3, edits=1),
            System(book, (0, 0, 0), 3, 3, edits=1), System(book, (0, 0, 1), 3, 4, edits=1),
            System(book, (1, 0, 1), 7, 8, edits=1), System(book, (1, 0, 0), 3, 3, edits=2),
        ]
        for (at, one), (place, other) in product(enumerate(systems), repeat=2):
            self.assertIs(are_like(one, other), at == place, (at, place))

    def test_what_is_in_the_look(self):
        # Only the level of the book's look is not the same, so that the lower tile is in the look or not.
        one = System(Book(Margins(Ladder(4)), wait=False), (0, 0, 0), 3, 3, edits=1)
        other = System(Book(PLAIN, wait=False), (0, 0, 0), 3, 3, edits=1)
        self.same(self.both(one, other), True)

    def test_a_look_at_two_tiles_of_which_one_is_watched(self):
        book = Book(PLAIN, wait=False)
        one, other = (System(book, look, 3, 3, edits=1) for look in ((0, 0, 0), (0, 0, 1)))
        self.same(self.both(one, other), True)

    def test_other_bundles(self):
        ladder = Ladder(4, [2], [(0, 0), (1, 0)])
        for pairs, alike in (([(0, 0), (0, 1)], True), ([(0, 0), (0, 0)], False), ([(0, 0), (3, 1)], True),
                             ([(1, 0), (0, 1)], True)):
            one = System(Book(Margins(ladder)), (1, 1, 1), 7, 7, edits=1)
            other = System(Book(Margins(ladder, pairs)), (1, 1, 1), 7, 7, edits=1)
            self.same([one.bundles(kind) == other.bundles(kind) for kind in range(3)] == [True] * 3, alike)
            self.same(self.both(one, other), alike)

    def test_by_the_words_and_like_systems_have_the_same_table(self):
        alike = 0
        for number in range(400):
            draw = random.Random(number)
            book = drawn_book(draw, False)
            one, other = drawn_system(draw, book), drawn_system(draw, book)
            if draw.random() < 0.3:
                other = drawn_system(draw, Book(drawn_margins(draw, False), **book.cares()))
            expected = (
                one.book.cares() == other.book.cares() and one.edits == other.edits and one.flags == other.flags
                and [level for level, _ in one.watched] == [level for level, _ in other.watched]
                and [level == one.look[0] for level, _ in one.watched]
                == [level == other.look[0] for level, _ in other.watched]
                and all(one.bundles(kind) == other.bundles(kind) for kind in range(3)))
            self.assertIs(are_like(one, other), expected)
            if expected:
                alike += 1
                try:
                    self.same(one.table(), other.table())
                except TooMany:
                    self.fails(TooMany("states", 5000), other.table)
        self.assertGreater(alike, 30)


def plain_systems(book, wish, level, width, cells):
    """The systems of [73], by cells that are told, in their sequence."""
    look = (level, 0, width - 1)
    keys = [(x, z, edits) for x, z in product(cells, repeat=2) for edits in (1, 2)
            if wish == "whole" or x == z and edits == 1]
    return [(key, System(book, look, key[0], key[1], edits=key[2])) for key in keys]


class Keeping(Case):

    def rows(self, many, start=0):
        """Drawn books of few ends with a level, a wish and a width."""
        found = 0
        for number in range(start, start + 10000):
            draw = random.Random(number)
            factors = draw.choice(([], [2], [2], [3], [2, 2]))
            edges = [(draw.choice((0, 0, 1)), 0) for _ in range(len(factors) + 1)]
            ladder = Ladder(draw.choice((1, 2)), factors, edges)
            margins = Margins(ladder, draw.choice((None, [(0, 0)] * ladder.levels, [(0, 1)] * ladder.levels)))
            book = Book(margins, **{**draw.choice(ALL_CARES), "hands": draw.choice((1, 1, 1, 2))})
            level = draw.randrange(ladder.levels)
            wish, width = draw.choice(ALL)
            if width == 2 and level == 2 or len(plain_ends(book, level, held(book, level, width))) > 6:
                continue
            yield book, wish, level, width
            found += 1
            if found == many:
                return

    def test_all_cells_of_a_period(self):
        kept = {True: 0, False: 0}
        for book, wish, level, width in self.rows(120):
            try:
                wrong = [key for key, system in plain_systems(book, wish, level, width, held(book, level, width))
                         if wrong_states(system, wish) != []]
            except TooMany:
                self.fails(TooMany("states", 5000), keeps, book, wish, level, width)
                continue
            kept[wrong == []] += 1
            self.assertIs(keeps(book, wish, level, width), wrong == [])
            self.assertIs(first_fault(book, wish, level, width) is None, wrong == [])
        self.assertGreater(min(kept.values()), 20)

    def test_the_first_fault_and_kinds_by_all_places(self):
        for book, wish, level, width in self.rows(120, 20000):
            cells = plain_ends(book, level, held(book, level, width))
            first, fault = [], None
            for key, system in plain_systems(book, wish, level, width, cells):
                if not any(are_like(system, other) for _, other in first):
                    first.append((key, system))
            self.same(kinds(book, wish, level, width), [key for key, _ in first])
            try:
                for key, system in plain_systems(book, wish, level, width, cells):
                    if wrong_states(system, wish) != [] and fault is None:
                        fault = key
            except TooMany:
                self.fails(TooMany("states", 5000), first_fault, book, wish, level, width)
                continue
            self.same(first_fault(book, wish, level, width), fault)

    def test_by_hand(self):
        book = Book(PLAIN)
        self.same([keeps(book, wish, level) for wish, level in product(("whole", "fresh", "forward"), (0, 1))],
                  [True] * 6)
        self.same([keeps(book, "whole", 0, 2), first_fault(book, "whole", 0, 2)], [True, None])
        loose = Book(PLAIN, order="any", wait=False)
        self.same([keeps(loose, "whole", 0), keeps(loose, "whole", 1)], [True, False])
        self.same([first_fault(loose, "whole", 0), first_fault(loose, "whole", 1)], [None, (0, 4, 1)])
        self.same(first_fault(width=2, level=0, wish="whole", book=loose), (0, 4, 1))
        self.same(kinds(loose, "whole", 0), [(0, 0, 1), (0, 0, 2)])
        self.same(kinds(loose, "fresh", 1), [(0, 0, 1)])
        self.same(kinds(wish="forward", book=Book(TALL), width=1, level=2)[0], (0, 0, 1))

    def test_a_fault_at_negative_places_comes_first(self):
        lacking = Book(Margins(Ladder(4, [], [(1, 0)]), [(0, 0)]))
        self.same(first_fault(lacking, "fresh", 0), (-1, -1, 1))
        self.same([keeps(lacking, "fresh", 0), keeps(lacking, "forward", 0)], [False, True])

    def test_a_fault_with_two_edits_alone(self):
        # One edit of both cells is seen at once; of two edits the tiles may show the later one alone.
        book = Book(Margins(Ladder(4), [(0, 4)]), hands=1, wait=False)
        self.same(first_fault(book, "whole", 0), None)
        self.same(first_fault(book, "whole", 0, 2)[:2], (0, 4))

    def test_great_sides(self):
        self.same(first_fault(Book(PLAIN * FAR, order="any", wait=False), "whole", 1), (0, 4 * FAR, 1))
        self.same(keeps(Book(PLAIN * FAR), "whole", 1), True)

    def test_returned_lists_are_new(self):
        kinds(Book(PLAIN), "fresh", 1).append(1)
        self.same(kinds(Book(PLAIN), "fresh", 1), [(0, 0, 1)])


class Limits(Case):

    def test_16_ends_and_17(self):
        # A look at the tile 0 holds the cells 0 to 7, with side 1 of level 0 these are all ends.
        for sides, edge, many in (((1, [2, 4]), (4, 4), 16), ((1, [2, 4]), (4, 5), 17), ((1, [2, 4]), (5, 4), 17)):
            book = Book(Margins(Ladder(*sides, [(0, 0), (0, 0), edge])), source="drawing", order="any")
            self.same(len(list(places(book, 2))), many * many)
            for call in (keeps, first_fault, kinds):
                if many == 16:
                    self.assertIsNot(call(book, "fresh", 2), False)
                else:
                    for wish in ("whole", "fresh", "forward"):
                        self.fails(TooMany("ends", 16), call, book, wish, 2)

    def test_16_ends_and_17_in_two_tiles(self):
        book = Book(Margins(Ladder(1, [4], [(0, 0), (4, 4)])), source="drawing", wait=False)
        self.same(len(list(places(book, 1, 2))), 256)
        self.same([keeps(book, "fresh", 1), keeps(book, "whole", 1, 2)], [True, False])
        more = Book(Margins(Ladder(2, [4], [(0, 0), (2, 1)])), source="drawing")
        self.same([len(list(places(more, 1))), len(list(places(more, 1, 2)))], [49, 144])
        margins = Margins(Ladder(1, [4, 2], [(0, 1), (4, 4), (8, 1)]))
        self.same(len(list(places(Book(margins), 2))), 17 * 17)
        self.fails(TooMany("ends", 16), keeps, Book(margins), "whole", 2)
        self.same(len(list(places(Book(margins), 1, 2))), 16 * 16)

    def test_ends_come_behind_wishes_and_ahead_of_states(self):
        book = Book(MANY_ENDS, order="any", hands=2, alone=False)
        for call in (keeps, first_fault, kinds):
            self.fails(InvalidWish("none"), call, book, "none", 2)
            self.fails(InvalidCount(2), call, book, "none", 2, 2)
            self.fails(TooMany("ends", 16), call, book, "whole", 2)

    def test_tables_that_are_too_great(self):
        book = Book(Margins(Ladder(1, [2, 2])), order="any", hands=2)
        # A fault is found ahead of the table that is too great.
        self.assertNotEqual(wrong_states(System(book, (2, 0, 0), 0, 1, edits=1), "whole"), [])
        self.fails(TooMany("states", 5000), System(book, (2, 0, 0), 0, 2, edits=2).table)
        self.fails(TooMany("states", 5000), keeps, book, "whole", 2)
        self.fails(TooMany("states", 5000), first_fault, book, "whole", 2)
        self.same(kinds(book, "whole", 2)[:3], [(0, 0, 1), (0, 0, 2), (0, 1, 1)])
        self.same(keeps(book, "fresh", 2), False)


class Errors(Case):

    def test_levels(self):
        for book in (Book(PLAIN), Book(TALL)):
            for call, level in product((keeps, first_fault, kinds), no_levels(book.ladder.levels)):
                self.fails(InvalidLevel(level), call, book, "none", level, None)

    def test_widths(self):
        for call, width in product((keeps, first_fault, kinds), NO_INTEGERS + [0, 3, -1, FAR]):
            for level in (0, 1, 2):
                self.fails(InvalidCount(width), call, Book(TALL), "none", level, width)
        for call in (keeps, first_fault, kinds):
            self.fails(InvalidCount(2), call, Book(TALL), "fresh", 2, 2)

    def test_wishes(self):
        for call, wish in product((keeps, first_fault, kinds), NO_WISHES):
            self.fails(InvalidWish(wish), call, Book(PLAIN), wish, 0)
            self.fails(InvalidWish(wish), call, Book(PLAIN), wish, 1, 2)
        for call, wish in product((keeps, first_fault, kinds), ("fresh", "forward")):
            self.fails(InvalidWish(wish), call, Book(PLAIN), wish, 1, 2)
            self.fails(InvalidWish(wish), call, Book(MANY_ENDS), wish, 1, 2)


class Interface(Case):

    def test_the_names_of_the_parameters(self):
        self.takes(ends, "book", "level")
        self.takes(place_of, "book", "level", "cell")
        self.takes(places, "book", "level", "width")
        self.takes(are_like, "one", "other")
        for call in (keeps, first_fault, kinds):
            self.takes(call, "book", "wish", "level", "width")
        for call in (places, keeps, first_fault, kinds):
            self.same(inspect.signature(call).parameters["width"].default, 1)


if __name__ == "__main__":
    unittest.main()
