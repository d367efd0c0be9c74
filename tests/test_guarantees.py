"""The guarantees of the document, each over the whole program: from books and runs to systems, claims and desks."""

import random
import unittest
from itertools import product

from onceseen.badruns import bad_run, is_bad_run
from onceseen.books import Book
from onceseen.certificates import is_certificate, never
from onceseen.claims import is_paper, is_true, paper_for
from onceseen.contents import Content
from onceseen.desk import Desk
from onceseen.errors import InvalidClaim, LimitError, StateError, StripError, TooMany
from onceseen.history import History
from onceseen.ladders import Ladder
from onceseen.margins import Margins
from onceseen.moments import bar_of, is_bar, is_of, moments_of
from onceseen.places import ends, keeps, place_of
from onceseen.runs import Run
from onceseen.systems import System
from onceseen.texts import line_of, read_book, read_deed, text_of
from onceseen.work import greatest_work, least_work, mean_work, work
from tests.checking import FAR, Case
from tests.drawing import drawn_book, drawn_cell, drawn_look, drawn_margins, drawn_system, wishes_of


def drawn_run(draw, book, deeds):
    """A run of the book behind some drawn deeds."""
    run = Run(book)
    for _ in range(deeds):
        places = [(level, tile) for level in range(book.ladder.levels) for tile in run.marked(level)]
        word = draw.random()
        first = draw.randrange(-6, 7)
        deed = ("edit", first, first + draw.choice((0, 1, 3)))
        if places and word < 0.5:
            deed = ("begin", *draw.choice(places))
        elif run.busy() and word < 0.9:
            deed = ("end", draw.choice(run.busy())[0])
        try:
            run.do(deed)
        except StateError:
            pass
    return run


class OneMoment(Case):

    def test_what_is_shown_is_told_to_be_of_a_moment_exactly_if_each_version_stands_then(self):
        torn = 0
        for number in range(150):
            draw = random.Random(number)
            book = drawn_book(draw, wait=False)
            run = drawn_run(draw, book, 40)
            history, look = run.history, drawn_look(draw, book)
            level, first, last = look
            cells = list(range(book.ladder.held(level, first)[0], book.ladder.held(level, last)[1] + 1))
            content = run.content(look, cells)
            moments = [moment for moment in range(history.moment + 1)
                       if all(history.version(cell, moment) == version for cell, version in content.pairs())]
            self.same([moment for moment in range(history.moment + 1) if is_of(history, content, moment)], moments)
            told = (moments[0], moments[-1] + 1) if moments else None
            self.same([run.look_at(look), moments_of(history, content)], [told, told])
            bars = [run.bar(look), bar_of(history, content)]
            self.same([bar is None for bar in bars], [told is not None] * 2)
            torn += told is None
            edits, pairs = [history[at] for at in range(1, history.moment + 1)], content.pairs()
            claim = {"claim": "no moment", "edits": edits, "pairs": pairs}
            self.assertIs(is_true(claim), told is None)
            if told is None:
                self.same([is_bar(history, content, bar) and is_paper(claim, bar) for bar in bars], [True, True])
            else:
                self.same(is_true({**claim, "claim": "moments", "moments": told}), True)
            desk = Desk.from_log(book, [line_of(deed) for deed in run.deeds()])
            answer = desk.do(line_of(("look", *look)))
            self.same(answer, "never" if told is None else f"{told[0]} {told[1]}")
            self.assertEqual(desk.shown(look, cells), content)
        self.assertGreater(torn, 30)


class NeverOrEver(Case):

    def test_a_table_or_a_run_that_goes_wrong_never_both(self):
        found = {True: 0, False: 0}
        for number in range(300):
            draw = random.Random(number)
            system = drawn_system(draw)
            book, look = system.book, system.look
            for wish in wishes_of(system):
                claim = {"claim": "never", "book": text_of(book), "look": look, "cells": (system.x, system.z),
                         "edits": system.edits, "wish": wish}
                try:
                    told = never(system, wish)
                except TooMany:
                    self.fails(TooMany("states", 5000), bad_run, system, wish)
                    continue
                found[told] += 1
                deeds = bad_run(system, wish)
                self.same([is_true(claim), is_certificate(system, wish, system.table()), deeds is None], [told] * 3)
                if told:
                    self.same(is_paper(claim, paper_for(claim)), True)
                    continue
                self.same(is_bad_run(book, look, wish, deeds), True)
                ever = {"claim": "ever", "book": text_of(book), "look": look, "wish": wish}
                try:
                    self.same([is_true(ever), is_paper(ever, [line_of(deed) for deed in deeds])], [True, True])
                except (TooMany, InvalidClaim):
                    pass
                # A desk can do what the run does, line by line.
                desk = Desk(read_book(text_of(book)))
                answers = desk.do_all(*[line_of(deed) for deed in deeds])
                self.same(wish != "whole" or answers[-1] == "never", True)
                self.same([read_deed(line) for line in desk.log()], [deed for deed in deeds if deed[0] != "look"])
        self.assertGreater(min(found.values()), 50)

    def test_whatever_goes_wrong_in_any_run_does_so_in_a_watched_system(self):
        faults = {"whole": 0, "fresh": 0}
        for number in range(250):
            draw = random.Random(number)
            book = drawn_book(draw, False)
            run = drawn_run(draw, book, 40)
            places = [(level, tile) for level in range(book.ladder.levels) for tile in range(-4, 5)]
            wrong = {("whole", level) for level, tile in places if shows_no_moment(run, level, tile)}
            to_rest(run)
            wrong |= {("fresh", level) for level, tile in places if not is_fresh(run, level, tile)}
            for wish, level in sorted(wrong):
                try:
                    kept = keeps(book, wish, level)
                except LimitError:
                    continue
                faults[wish] += 1
                self.same([wish, kept], [wish, False])
        self.assertGreater(min(faults.values()), 10, faults)


def to_rest(run):
    """Draw whatever is marked, the finest tiles first."""
    for hand, _, _ in run.busy():
        run.end(hand)
    for level in range(run.book.ladder.levels):
        for tile in run.marked(level):
            run.end(run.begin(level, tile))


def shows_no_moment(run, level, tile):
    """Whether a look at the tile is let, and what it shows is of no moment."""
    try:
        return run.look_at((level, tile, tile)) is None
    except StateError:
        return False


def is_fresh(run, level, tile):
    first, last = run.book.ladder.held(level, tile)
    return all(run.version(level, tile, cell) == run.history.version(cell) for cell in range(first, last + 1))


class Enough(Case):

    def test_margins_are_told_to_be_enough_exactly_if_no_edit_misses_a_tile(self):
        seen = {True: 0, False: 0}
        for number in range(300):
            margins = drawn_margins(random.Random(number))
            ladder, period = margins.ladder, margins.ladder.period
            missed = [(level, cell, tile) for level in range(ladder.levels) for cell in range(period)
                      for tile in range(ladder.holders(level, cell)[0], ladder.holders(level, cell)[1] + 1)
                      if not margins.marks(level, tile, cell, cell)]
            seen[missed == []] += 1
            self.assertIs(margins.is_enough(), missed == [])
            text = text_of(Book(margins))
            self.assertIs(is_true({"claim": "enough", "book": text}), missed == [])
            for level in range(ladder.levels):
                claim = {"claim": "missed", "book": text, "level": level}
                self.assertIs(is_true(claim), any(own == level for own, _, _ in missed))
            for level, cell, tile in missed[:5]:
                self.same(is_paper({"claim": "missed", "book": text, "level": level}, (cell, tile)), True)
        self.assertGreater(min(seen.values()), 50)


class AllPlaces(Case):

    def test_what_is_told_for_all_places_is_true_however_far_away(self):
        kept = {True: 0, False: 0}
        for number in range(120):
            draw = random.Random(number)
            book = drawn_book(draw, False, hands=1)
            level = draw.randrange(min(2, book.ladder.levels))
            wish = draw.choice(("whole", "fresh", "forward"))
            try:
                told = keeps(book, wish, level)
            except LimitError:
                continue
            kept[told] += 1
            period = book.ladder.side(level)
            wrong = False
            for _ in range(6):
                tile = draw.choice((0, -1, draw.randrange(-FAR, FAR)))
                look = (level, tile, tile)
                x = drawn_cell(draw, book, look)
                z = drawn_cell(draw, book, look) if wish == "whole" else x
                edits = draw.choice((1, 2)) if wish == "whole" else 1
                system = System(book, look, x, z, edits=edits)
                near = System(book, (level, 0, 0), x - tile * period, z - tile * period, edits=edits)
                self.same([system.table() == near.table(), never(system, wish) or not told], [True, True])
                self.same(place_of(book, level, x) - tile * period, place_of(book, level, x - tile * period))
                self.assertIn(place_of(book, level, x) % period, ends(book, level))
                wrong = wrong or not never(system, wish)
            if not told:
                claim = {"claim": "breaks", "book": text_of(book), "level": level, "width": 1, "wish": wish}
                self.same(is_paper(claim, paper_for(claim)), True)
            self.same(told and wrong, False)
        self.assertGreater(min(kept.values()), 10)

    def test_great_sides(self):
        for times in (1, FAR):
            margins = Margins(Ladder(4, [2], [(0, 0), (1, 0)])) * times
            self.same([keeps(Book(margins), wish, 1) for wish in ("whole", "fresh", "forward")], [True] * 3)
            loose = Book(margins, order="any")
            self.same([keeps(loose, wish, 1) for wish in ("whole", "fresh", "forward")], [False, False, True])


class Counted(Case):

    def test_least_greatest_and_mean_numbers_are_exact(self):
        for number in range(150):
            draw = random.Random(number)
            margins = drawn_margins(draw)
            width, period = draw.choice((1, 2, 5, 17)), margins.ladder.period
            works = [work(margins, first, first + width - 1) for first in range(period)]
            self.same([least_work(margins, width), greatest_work(margins, width)],
                      [(min(works), works.index(min(works))), (max(works), works.index(max(works)))])
            top, bottom = mean_work(margins, width)
            self.same([top * period, bottom > 0], [sum(works) * bottom, True])
            run = Run(Book(margins, hands=2))
            first = draw.randrange(period)
            run.edit(first, first + width - 1)
            marked = [run.marked(level) for level in range(margins.ladder.levels)]
            self.same(sum(len(tiles) for tiles in marked), works[first])

    def test_any_width(self):
        margins = Margins(Ladder(FAR, [2], [(0, 0), (1, 0)]))
        self.same([least_work(margins, 6 * FAR), greatest_work(margins, 6 * FAR)[0]], [(10, 0), 11])
        self.same(mean_work(Margins(Ladder(4, [2])), 10 ** 40), (3 * (10 ** 40 - 1) + 16, 8))


class Checked(Case):

    def test_papers_are_checked_line_by_line(self):
        """A paper with a line less, more or turned is no paper, or is one that shows the same by itself."""
        looked_at = 0
        for number in range(60):
            draw = random.Random(number)
            system = drawn_system(draw, drawn_book(draw, False, hands=1))
            for wish in wishes_of(system):
                deeds = bad_run(system, wish)
                if deeds is None:
                    table = system.table()
                    for at in range(0, len(table), 1 + len(table) // 10):
                        self.same(is_certificate(system, wish, table[:at] + table[at + 1:]), False)
                        self.same(is_certificate(system, wish, table[:at] + [None] + table[at:]), False)
                        looked_at += 1
                    continue
                for at in range(len(deeds)):
                    self.same(is_bad_run(system.book, system.look, wish, deeds[:at] + [None] + deeds[at:]), False)
                    less = deeds[:at] + deeds[at + 1:]
                    if is_bad_run(system.book, system.look, wish, less):
                        self.shows(system, wish, less)
                    looked_at += 1
        self.assertGreater(looked_at, 300)

    def shows(self, system, wish, deeds):
        run = Run(system.book)
        run.do_all(deeds[:-1])
        level, first, last = system.look
        low, high = system.book.ladder.held(level, first)[0], system.book.ladder.held(level, last)[1]
        before = run.content(system.look, list(range(low, high + 1))).pairs()
        told = run.do(deeds[-1])
        after = run.content(system.look, list(range(low, high + 1))).pairs()
        if wish == "whole":
            self.same([deeds[-1], told], [("look", *system.look), None])
        elif wish == "fresh":
            self.same([run.at_rest, is_fresh(run, level, first)], [True, False])
        else:
            self.same(any(new < old for (_, new), (_, old) in zip(after, before)), True)

    def test_each_kind_of_paper_by_itself(self):
        """Whatever is shown by a paper is true, and what is not true has none among these."""
        values = [None, ((3, 1), (4, 3), 2), ((3, 0), (4, 1), 1), (7, 1), (-1, 0), [], {}]
        texts = [text_of(Book(Margins(Ladder(4, [2], [(0, 0), (1, 0)]), pairs))) for pairs in (None, [(0, 0), (0, 0)])]
        claims = [{"claim": "no moment", "edits": edits, "pairs": pairs}
                  for edits in ([(3, 4), (0, 3), (4, 9)], [(3, 3), (4, 4)])
                  for pairs in ([(3, 1), (4, 3)], [(3, 1), (4, 0)], [(3, 0), (4, 0)])
                  if all(version in History(*edits).versions(cell) for cell, version in pairs)]
        claims += [{"claim": "enough", "book": text} for text in texts]
        claims += [{"claim": "missed", "book": text, "level": level} for text in texts for level in (0, 1)]
        for claim, value in product(claims, values):
            if is_paper(claim, value):
                self.same(is_true(claim), True)
        for claim in claims:
            told = is_true(claim)
            try:
                self.same(is_paper(claim, paper_for(claim)), told)
            except (StateError, StripError):
                self.same(told, False)


class Printed(Case):

    def test_the_example_of_the_overview(self):
        torn = Run(Book(Margins(Ladder(4, [2])), order="any", wait=False))
        torn.do_all([("edit", 3, 4), ("begin", 0, 0), ("end", 0), ("begin", 1, 0), ("end", 0)])
        self.assertEqual(torn.content((1, 0, 0), [3, 4]), Content([(3, 1), (4, 0)]))
        self.same(torn.look_at((1, 0, 0)), None)


if __name__ == "__main__":
    unittest.main()
