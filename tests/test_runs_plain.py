"""Runs against a plain one, for many drawn rows of deeds of small books of all cares."""

import copy
import random
import unittest
from itertools import product

from onceseen.contents import Content
from onceseen.errors import LimitError, MissingError, StateError, StripError
from onceseen.history import History
from onceseen.runs import Run
from tests.checking import Case
from tests.drawing import drawn_book, drawn_look
from tests.plain_run import PlainRun
from tests.test_books import ALL_CARES

OWN_ERRORS = (StripError, MissingError, StateError, LimitError)


class Pair:
    """A run and a plain one, to which the same is done."""

    # All cells that the drawn looks hold are among these.
    near = list(range(-300, 300))

    def __init__(self, case, run, plain):
        self.case = case
        self.run = run
        self.plain = plain

    def does(self, name, *passed):
        """Do the same with both, and compare what they return or raise."""
        told = getattr(self.plain, name)(*passed)
        if isinstance(told, OWN_ERRORS):
            self.case.fails(told, getattr(self.run, name), *passed)
        else:
            self.case.same(getattr(self.run, name)(*passed), told)

    def step(self, draw):
        """One drawn deed."""
        plain, word = self.plain, draw.random()
        places = sorted(plain.marks) or [(0, 0)]
        if word < 0.15 or (word < 0.9 and plain.at_rest()):
            first = draw.randrange(-6, 7)
            self.does("edit", first, first + draw.choice((0, 0, 1, 3)))
        elif word < 0.5 or (word < 0.9 and not plain.drawings):
            # The first place is one that no care of the order bars by a mark.
            level, tile = places[0] if draw.random() < 0.6 else draw.choice(places)
            self.does("begin", level, tile + (draw.random() < 0.1))
        elif word < 0.95:
            self.does("end", draw.choice(sorted(plain.drawings) or [0]) if draw.random() < 0.95 else 1)
        else:
            self.does("undo")

    def compare(self):
        """Compare all that both tell but what tiles show."""
        run, plain, levels = self.run, self.plain, self.run.book.ladder.levels
        same = self.case.same
        same([run.marked(level) for level in range(levels)],
             [sorted(tile for own, tile in plain.marks if own == level) for level in range(levels)])
        same([run.busy(), run.at_rest, run.deeds(), len(run)],
             [plain.busy(), plain.at_rest(), plain.done, len(plain.done)])
        self.case.assertEqual(run.history, History(*plain.edits))

    def compare_begins(self):
        for level, tile in product(range(self.run.book.ladder.levels), range(-4, 5)):
            self.case.same(self.run.lets(level, tile), self.plain.barred(level, tile) is None)

    def compare_look(self, draw, look):
        run, plain = self.run, self.plain
        self.does("look_at", look)
        cells = draw.sample(range(-12, 13), 9)
        pairs = [pair for pair in plain.pairs(look) if pair[0] in cells]
        self.case.assertEqual(run.content(look, cells), Content(pairs))
        self.case.assertEqual(run.content(look, self.near), Content(list(plain.pairs(look))))
        bar = run.bar(look)
        self.case.assertIs(bar is None, plain.moments(look) != [])
        if bar is not None:
            self.case.assertTrue(plain.is_bar(look, bar), (look, bar))

    def compare_tiles(self):
        for level, tile in product(range(self.run.book.ladder.levels), range(-4, 5)):
            told = {cell: self.run.version(level, tile, cell) for cell in self.plain.held(level, tile)}
            self.case.assertEqual(told, self.plain.shows(level, tile))


class Drawn(Case):

    def row(self, draw, book, deeds):
        pair = Pair(self, Run(book), PlainRun(book))
        for at in range(deeds):
            pair.step(draw)
            pair.compare()
            pair.compare_look(draw, drawn_look(draw, book))
            if at % 4 == 0:
                pair.compare_begins()
                pair.compare_tiles()
        while len(pair.run) > 0:
            pair.does("undo")
            pair.compare()
        pair.compare_tiles()
        pair.does("undo")

    def test_all_cares(self):
        for number, cares in enumerate(ALL_CARES * 2):
            draw = random.Random(number)
            self.row(draw, drawn_book(draw, **cares), 30)

    def test_long_rows(self):
        for number in range(12):
            draw = random.Random(1000 + number)
            self.row(draw, drawn_book(draw), 150)

    def test_trying_copies_and_lists_of_deeds(self):
        for number in range(60):
            draw = random.Random(2000 + number)
            book = drawn_book(draw)
            pair = Pair(self, Run(book), PlainRun(book))
            for _ in range(25):
                pair.step(draw)
            copied = pair.run.copy()
            again = Run(pair.run.book)
            again.do_all(pair.run.deeds())
            with pair.run.trying() as run:
                self.assertIs(run, pair.run)
                other = Pair(self, run, copy.deepcopy(pair.plain))
                for _ in range(15):
                    other.step(draw)
                    other.compare()
            for run in (pair.run, copied, again):
                same = Pair(self, run, pair.plain)
                same.compare()
                same.compare_begins()
                same.compare_tiles()


if __name__ == "__main__":
    unittest.main()
