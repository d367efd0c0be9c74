"""Watched systems against a plain reading of the document, and against drawn rows of deeds of a plain run."""

import random
import unittest
from itertools import combinations_with_replacement, islice, product

from onceseen.badruns import Play, bad_run, is_bad_run
from onceseen.books import Book
from onceseen.certificates import is_certificate, never, wrong_states
from onceseen.errors import InvalidState, LimitError, TooMany
from onceseen.ladders import Ladder
from onceseen.margins import Margins
from onceseen.systems import System
from tests.checking import FAR, Case
from tests.drawing import drawn_book, drawn_system, wishes_of
from tests.plain_run import PlainRun
from tests.plain_system import PlainSystem
from tests.test_books import ALL_CARES


def plain_of(system):
    return PlainSystem(system.book, system.look, system.x, system.z, system.edits)


class Drawn(Case):

    def test_what_is_watched_and_bundles(self):
        for number in range(150):
            draw = random.Random(number)
            system = drawn_system(draw)
            plain = plain_of(system)
            self.same([system.watched, system.flags, system.start()], [plain.watched, plain.flags, plain.start()])
            if system.book.ladder.period <= 24:
                for kind in range(3):
                    self.same(system.bundles(kind), plain.bundles(kind))

    def test_tables_next_states_and_what_goes_wrong_for_all_cares(self):
        small = 0
        for number, cares in enumerate(ALL_CARES):
            draw = random.Random(1000 + number)
            system = drawn_system(draw, drawn_book(draw, **cares))
            plain = plain_of(system)
            bundles = [system.bundles(kind) for kind in range(3)]
            table = plain.table(bundles)
            if table is None:
                self.fails(TooMany("states", 5000), system.table)
                continue
            small += 1
            self.same(system.table(), table)
            for state in draw.sample(table, min(20, len(table))):
                self.same(system.nexts(state), plain.nexts(state, bundles))
            for wish in wishes_of(system):
                for state in draw.sample(table, min(50, len(table))):
                    self.assertIs(system.goes_wrong(state, wish), plain.goes_wrong(state, wish))
                wrong = [state for state in table if plain.goes_wrong(state, wish)]
                self.same(wrong_states(system, wish), wrong)
                self.assertIs(never(system, wish), wrong == [])
        self.assertGreater(small, 150)

    def test_states_that_no_deed_leads_to(self):
        for number in range(150):
            draw = random.Random(2000 + number)
            system = drawn_system(draw, drawn_book(draw, False))
            plain = plain_of(system)
            bundles = [system.bundles(kind) for kind in range(3)]
            for state in islice(plain.states(), draw.randrange(500), 5000, 701):
                self.same(system.nexts(state), plain.nexts(state, bundles))
                for wish in wishes_of(system):
                    self.assertIs(system.goes_wrong(state, wish), plain.goes_wrong(state, wish))

    def test_states_of_other_systems(self):
        for number in range(60):
            draw = random.Random(3000 + number)
            system, other = drawn_system(draw), drawn_system(draw)
            known = {repr(state) for state in islice(plain_of(system).states(), 20000)}
            for state in islice(plain_of(other).states(), draw.randrange(50), 3000, 97):
                if len(known) < 20000 and repr(state) not in known:
                    self.fails(InvalidState(state), system.nexts, state)


class BadRuns(Case):

    def rows(self, start, many, **cares):
        for number in range(start, start + many):
            draw = random.Random(number)
            yield draw, drawn_system(draw, drawn_book(draw, draw.random() < 0.7, **cares))

    def test_a_bad_run_or_a_certificate_never_both(self):
        found = {(wish, wrong): 0 for wish, wrong in product(("whole", "fresh", "forward"), (True, False))}
        for draw, system in self.rows(5000, 700):
            try:
                table = system.table()
            except LimitError:
                continue
            for wish in wishes_of(system):
                deeds = bad_run(system, wish)
                found[wish, deeds is not None] += 1
                self.assertIs(is_certificate(system, wish, table), deeds is None)
                if deeds is not None:
                    self.assertTrue(is_bad_run(system.book, system.look, wish, deeds), (system, wish, deeds))
                    self.assertTrue(self.shows(system, wish, deeds), (system, wish, deeds))
        self.assertGreater(min(found.values()), 5, found)

    def shows(self, system, wish, deeds):
        """Whether a plain run can do the deeds, and the last one shows the fault."""
        run = PlainRun(system.book)
        level, first, last = system.look
        for deed in deeds[:-1]:
            self.does(run, deed)
        before = dict(run.shows(level, first))
        told = self.does(run, deeds[-1])
        if wish == "whole":
            return deeds[-1] == ("look", *system.look) and told is None
        after = run.shows(level, first)
        if wish == "fresh":
            return run.at_rest() and any(run.version(cell, len(run.edits)) != after[cell] for cell in after)
        return deeds[-1][0] == "end" and any(after[cell] < before[cell] for cell in after)

    def does(self, run, deed):
        word, *numbers = deed
        told = run.look_at(tuple(numbers)) if word == "look" else getattr(run, word)(*numbers)
        self.assertNotIsInstance(told, Exception, deed)
        return told

    def test_far_and_great_tiles(self):
        margins = Margins(Ladder(FAR, [3, 2], [(1, 0), (FAR, 2), (0, 7)]))
        tile = 10 ** 18
        for cares in ({"order": "any"}, {"order": "any", "hands": 2}, {"order": "finest", "hands": 2}):
            book = Book(margins, wait=False, **cares)
            first = 3 * FAR * tile
            system = System(book, (1, tile, tile), first - 1, first, edits=1)
            self.assertTrue(is_bad_run(book, system.look, "whole", bad_run(system, "whole")))


class Follower:
    """A plain run, and the state of a watched system that it has come to."""

    def __init__(self, system):
        self.system = system
        self.run = PlainRun(system.book)
        # The numbers in the run of the watched edits that have been made.
        self.numbers = []
        self.touched = [{system.x, system.z}] if system.edits == 1 else [{system.x}, {system.z}]

    def bit(self, shown, cell, watched):
        if not watched:
            return -1
        which = 0 if cell == "x" or self.system.edits == 1 else 1
        number = self.numbers[which] if which < len(self.numbers) else FAR
        return 1 if shown[self.system.x if cell == "x" else self.system.z] >= number else 0

    def pair(self, shown, at):
        return tuple(self.bit(shown, cell, watched) for cell, watched in zip("xz", self.system.flags[at]))

    def state(self):
        watched = self.system.watched
        tiles = [(int(place in self.run.marks), *self.pair(self.run.shows(*place), at))
                 for at, place in enumerate(watched)]
        drawings = []
        for drawing in self.run.drawings.values():
            if (drawing["level"], drawing["tile"]) in watched:
                at = watched.index((drawing["level"], drawing["tile"]))
                since = int(self.system.book.drop and drawing["marked behind"])
                drawings.append((at, *self.pair(drawing["read"], at), since))
        return (len(self.numbers), tuple(tiles), tuple(sorted(drawings)))

    def takes_edit(self, first, last):
        """Whether an edit of this stretch can be the next watched one."""
        left = self.touched[len(self.numbers):]
        return left != [] and all(first <= cell <= last for cell in left[0])

    def step(self, draw):
        """One drawn deed; an edit that can be the next watched one is taken for it now and then."""
        kind = draw.randrange(4)
        system = self.system
        if kind == 0:
            near = [system.x, system.z, system.x + 1, system.z - 1, system.x - system.book.ladder.side(0)]
            first, last = sorted((draw.choice(near), draw.choice(near)))
            number = self.run.edit(first, last)
            if self.takes_edit(first, last) and draw.random() < 0.7:
                self.numbers.append(number)
        elif kind == 1 and self.run.drawings:
            self.run.end(draw.choice(sorted(self.run.drawings)))
        elif self.run.marks:
            self.run.begin(*draw.choice(sorted(self.run.marks)))


class Walks(Case):

    def test_a_run_can_go_wherever_deeds_lead_from_state_to_state(self):
        late = 0
        for number in range(200):
            draw = random.Random(number)
            system = drawn_system(draw, drawn_book(draw, draw.random() < 0.5, **({"drop": True} if number % 2 else {})))
            play, states, code, follower = Play(system), system.states, 0, Follower(system)
            for _ in range(25):
                after = draw.choice(states.nexts(code))
                play.step(code, after)
                code, state = after, states.numbering.state_of(after)
                for word, *numbers in play.deeds()[len(follower.run.done):]:
                    self.assertNotIsInstance(getattr(follower.run, word)(*numbers), Exception)
                    # The only edit of the step.
                    if word == "edit" and state[0] > len(follower.numbers):
                        self.assertTrue(follower.takes_edit(*numbers))
                        follower.numbers.append(len(follower.run.edits))
                self.same(follower.state(), state)
                late += any(drawing[3] for drawing in state[2])
        self.assertGreater(late, 100)

    def test_shortest_stretches(self):
        """The fewer tiles an edit marks, the fewer have to be drawn where they bar a begin."""
        for number in range(100):
            system = drawn_system(random.Random(number))
            side, (level, first, last) = system.book.ladder.side(system.look[0]), system.look
            if system.book.ladder.period > 16:
                continue
            plain = plain_of(system)
            cells = range((first - 3) * side, (last + 4) * side + 1)
            first_touched = (system.x, system.z) if system.edits == 1 else (system.x,)
            for kind, touched in enumerate([(), first_touched, (system.z,)]):
                widths = {}
                for begin, end in combinations_with_replacement(cells, 2):
                    if all(begin <= cell <= end for cell in touched):
                        bundle = plain.bundle(begin, end)
                        widths[bundle] = min(end - begin, widths.get(bundle, end - begin))
                for bundle, (begin, end) in system.shortest(kind).items():
                    self.same([plain.bundle(begin, end), end - begin], [bundle, widths[bundle]])
                    self.assertTrue(all(begin <= cell <= end for cell in touched))


class Following(Case):

    def test_each_deed_of_a_run_leads_to_a_next_state_or_turns_nothing(self):
        turned = 0
        for number in range(250):
            draw = random.Random(7000 + number)
            system = drawn_system(draw)
            follower = Follower(system)
            state = follower.state()
            self.same(state, system.start())
            for _ in range(40):
                follower.step(draw)
                after = follower.state()
                if after != state:
                    self.assertIn(after, system.nexts(state), (system, follower.run.done))
                    turned += 1
                state = after
        self.assertGreater(turned, 1500)

    def test_no_run_goes_wrong_where_the_table_does_not(self):
        # The last watched tile is that of the look, where there is but one.
        faults = 0
        for number in range(250):
            draw = random.Random(9000 + number)
            system = drawn_system(draw, drawn_book(draw, False))
            try:
                wrong = {wish: wrong_states(system, wish) for wish in wishes_of(system)}
            except TooMany:
                continue
            follower = Follower(system)
            for _ in range(40):
                follower.step(draw)
                state = follower.state()
                if "fresh" in wrong and follower.run.at_rest() and state[0] == 1 and state[1][-1][1] == 0:
                    self.assertIn(state, wrong["fresh"])
                told = follower.run.look_at(system.look)
                if system.goes_wrong(state, "whole"):
                    faults += 1
                    self.assertIn(state, wrong["whole"])
                    if not isinstance(told, Exception):
                        self.assertIsNone(told)
        self.assertGreater(faults, 20)


if __name__ == "__main__":
    unittest.main()
