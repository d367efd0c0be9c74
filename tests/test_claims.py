"""Claims and their papers."""

import random
import unittest
from itertools import combinations_with_replacement, product

from onceseen.badruns import bad_run, is_bad_run
from onceseen.books import Book
from onceseen.certificates import never
from onceseen.claims import is_paper, is_true, paper_for
from onceseen.errors import InvalidClaim, TooMany, Untrue
from onceseen.history import History
from onceseen.ladders import Ladder
from onceseen.margins import Margins
from onceseen.places import first_fault, keeps, kinds
from onceseen.systems import System
from onceseen.texts import line_of, text_of
from tests.checking import FAR, NO_INTEGERS, NO_LISTS, NO_PAIRS, NO_STRETCHES, Case, no_levels, no_looks, small_margins
from tests.drawing import drawn_book, drawn_cell, drawn_look
from tests.test_badruns import TORN
from tests.test_places import MANY_ENDS, plain_systems
from tests.test_systems import LOOSE, NO_EDITS, NO_WISHES, PLAIN

STRICT = Book(PLAIN)
TEXT = text_of(STRICT)
LOOSE_TEXT = text_of(LOOSE.book)
LACKING = Margins(Ladder(4, [2], [(0, 0), (1, 0)]), [(0, 0), (0, 0)])
GREAT_TEXT = text_of(Book(Margins(Ladder(1, [2, 2])), order="any", hands=2, alone=False, drop=True, unmark="end"))
EDITS = [(3, 4), (0, 3), (4, 9)]

# One true claim of each kind, and one that is not.
TRUE = {
    "moments": {"claim": "moments", "edits": EDITS, "pairs": [(3, 1), (4, 1)], "moments": (1, 2)},
    "no moment": {"claim": "no moment", "edits": EDITS, "pairs": [(3, 1), (4, 3)]},
    "enough": {"claim": "enough", "book": TEXT},
    "missed": {"claim": "missed", "book": text_of(Book(LACKING)), "level": 1},
    "never": {"claim": "never", "book": TEXT, "look": (1, 0, 0), "cells": (3, 4), "edits": 1, "wish": "whole"},
    "ever": {"claim": "ever", "book": LOOSE_TEXT, "look": (1, 0, 0), "wish": "whole"},
    "keeps": {"claim": "keeps", "book": TEXT, "level": 1, "width": 1, "wish": "whole"},
    "breaks": {"claim": "breaks", "book": LOOSE_TEXT, "level": 1, "width": 1, "wish": "whole"},
}
UNTRUE = {
    "moments": {**TRUE["moments"], "moments": (1, 3)},
    "no moment": {**TRUE["no moment"], "pairs": [(3, 1), (4, 1)]},
    "enough": {**TRUE["enough"], "book": text_of(Book(LACKING))},
    "missed": {**TRUE["missed"], "level": 0},
    "never": {**TRUE["never"], "book": LOOSE_TEXT},
    "ever": {**TRUE["ever"], "book": TEXT},
    "keeps": {**TRUE["keeps"], "book": LOOSE_TEXT},
    "breaks": {**TRUE["breaks"], "book": TEXT},
}

# Values that are no paper for anything but the claims whose paper is None.
NO_PAPERS = [True, False, 0, 1, "", "none", (), [], {}, [None], (None,), {None: None}, History(), (3, 4), TORN,
             "edit 3 4"]


class Each(Case):

    def test_true_claims_and_untrue_ones(self):
        for word in TRUE:
            self.same([is_true(TRUE[word]), is_true(claim=UNTRUE[word])], [True, False])

    def test_a_paper_is_told_for_true_claims_alone(self):
        for word in TRUE:
            self.same(is_paper(TRUE[word], paper_for(TRUE[word])), True)
            self.same(is_paper(value=paper_for(claim=TRUE[word]), claim=TRUE[word]), True)
            self.fails(Untrue(), paper_for, UNTRUE[word])

    def test_papers_for_another_claim(self):
        papers = [paper_for(claim) for claim in TRUE.values()]
        for word, claim in UNTRUE.items():
            for paper in papers + [None] + NO_PAPERS:
                self.same(is_paper(claim, paper), False)
        for (word, claim), (other, paper) in product(TRUE.items(), zip(TRUE, papers)):
            # "moments" and "enough" have the paper None, "ever" and "breaks" here the same bad run.
            same = {word, other} in ({"moments", "enough"}, {"ever", "breaks"}) or word == other
            self.assertIs(is_paper(claim, paper), same, (word, other))

    def test_values_that_are_no_papers(self):
        for claim in list(TRUE.values()) + list(UNTRUE.values()):
            for value in NO_PAPERS:
                self.same(is_paper(claim, value), False)
        for word in TRUE:
            self.assertIs(is_paper(TRUE[word], None), word in ("moments", "enough"))
            self.same(is_paper(UNTRUE[word], None), False)

    def test_the_order_of_the_keys_and_tuples_for_lists(self):
        for word in TRUE:
            for claim, told in ((TRUE[word], True), (UNTRUE[word], False)):
                turned = {key: claim[key] for key in reversed(list(claim))}
                tuples = {key: tuple(part) if isinstance(part, list) else part for key, part in claim.items()}
                for other in (turned, tuples):
                    self.same(is_true(other), told)
                if told:
                    self.same(is_paper(tuples, paper_for(turned)), True)

    def test_a_claim_stays_as_it_was(self):
        for claim in TRUE.values():
            kept = {key: list(part) if isinstance(part, list) else part for key, part in claim.items()}
            paper_for(claim)
            self.same(claim == kept, True)

    def test_returned_papers_are_new(self):
        for word in ("never", "ever", "keeps", "breaks"):
            paper_for(TRUE[word]).clear()
            self.same(is_paper(TRUE[word], paper_for(TRUE[word])), True)
        keeping = paper_for(TRUE["keeps"])
        next(iter(keeping.values())).clear()
        self.same(is_paper(TRUE["keeps"], keeping), False)


class NoClaims(Case):

    def wrong(self, claim):
        for call in (is_true, paper_for):
            self.fails(InvalidClaim(claim), call, claim)
        self.fails(InvalidClaim(claim), is_paper, claim, None)

    def test_values_of_other_kinds(self):
        for value in NO_INTEGERS + [0, "claim", "moments", [TRUE["enough"]], list(TRUE["enough"].items()),
                                    {"claim": None}, {"claim": True}, {"claim": ["enough"]}, {"claim": "enough"},
                                    {"claim": "other"}, {"claim": ("enough",), "book": TEXT},
                                    {"claim": "Enough", "book": TEXT}, {"claim": "", "book": TEXT}, {"book": TEXT}]:
            self.wrong(value)

    def test_a_key_less_more_or_of_another_name(self):
        for claim in TRUE.values():
            for key in claim:
                less = {name: part for name, part in claim.items() if name != key}
                self.wrong(less)
                self.wrong({**less, key.upper(): claim[key]})
                self.wrong({**less, 1: claim[key]})
            for key in ("more", "", "paper", 0, None, True, ("claim",)):
                self.wrong({**claim, key: None})
            for key in {"edits", "pairs", "book", "look", "level", "width", "wish", "cells", "moments"} - set(claim):
                self.wrong({**claim, key: 1})

    def test_no_stretches(self):
        for word in ("moments", "no moment"):
            for value in NO_LISTS:
                self.wrong({**TRUE[word], "edits": value})
            for value in NO_STRETCHES:
                self.wrong({**TRUE[word], "edits": [value]})
                self.wrong({**TRUE[word], "edits": EDITS + [value]})

    def test_no_pairs(self):
        for word in ("moments", "no moment"):
            for value in NO_LISTS:
                self.wrong({**TRUE[word], "pairs": value})
            for value in NO_PAIRS:
                self.wrong({**TRUE[word], "pairs": [value]})
                self.wrong({**TRUE[word], "pairs": [(3, 1), value]})

    def test_versions_that_a_cell_never_has(self):
        for word in ("moments", "no moment"):
            for pair in ((3, 3), (4, 2), (5, 1), (9, 4), (FAR, 1)):
                self.wrong({**TRUE[word], "pairs": [(3, 1), pair]})
            self.same(type(is_true({**TRUE[word], "pairs": [(FAR, 0)]})), bool)

    def test_no_moments(self):
        for value in NO_STRETCHES + [(1, 1), (0, 0), None, [1, 2], (1, 2, 3), (2, 1), (True, 2), (1, True)]:
            if value != (3, 4):
                self.wrong({**TRUE["moments"], "moments": value})

    def test_no_texts(self):
        for word in ("enough", "missed", "never", "ever", "keeps", "breaks"):
            for value in NO_INTEGERS + [STRICT, TEXT[:-1], TEXT + "\n", "side 4\n", TEXT.encode(), [TEXT],
                                        TEXT.replace("wait", "Wait"), TEXT.replace("factor 2", "factor 5")]:
                self.wrong({**TRUE[word], "book": value})

    def test_no_levels(self):
        for word in ("missed", "keeps", "breaks"):
            for level in no_levels(2):
                self.wrong({**TRUE[word], "level": level})

    def test_no_widths(self):
        tall = text_of(Book(Margins(Ladder(2, [2, 2]))))
        for word in ("keeps", "breaks"):
            for width in NO_INTEGERS + [0, 3, -1, FAR]:
                self.wrong({**TRUE[word], "width": width})
            self.wrong({**TRUE[word], "book": tall, "level": 2, "width": 2})
            self.same(type(is_true({**TRUE[word], "book": tall, "level": 1, "width": 2})), bool)

    def test_no_looks(self):
        for word in ("never", "ever"):
            for look in no_looks(2):
                self.wrong({**TRUE[word], "look": look})

    def test_no_cells_and_cells_that_are_not_held(self):
        for cells in (None, 3, (), (3,), (3, 4, 5), [3, 4], {3: 4}, "34", (True, 4), (3, None), ("3", 4), (3, False),
                      ((3, 4),), (8, 3), (3, -1), (FAR, FAR), (3, 4 * FAR)):
            self.wrong({**TRUE["never"], "cells": cells})

    def test_no_number_of_edits(self):
        for edits in NO_EDITS + [EDITS]:
            self.wrong({**TRUE["never"], "edits": edits})

    def test_no_wishes(self):
        for word in ("never", "ever", "keeps", "breaks"):
            for wish in NO_WISHES:
                self.wrong({**TRUE[word], "wish": wish})

    def test_wishes_that_do_not_go_with_the_rest(self):
        single = {**TRUE["never"], "cells": (3, 3)}
        for wish in ("fresh", "forward"):
            self.wrong({**TRUE["never"], "wish": wish})
            self.wrong({**single, "edits": 2, "wish": wish})
            self.wrong({**single, "look": (1, 0, 1), "wish": wish})
            self.wrong({**TRUE["ever"], "look": (1, 0, 1), "wish": wish})
            for word in ("keeps", "breaks"):
                self.wrong({**TRUE[word], "width": 2, "wish": wish})
                self.same(type(is_true({**TRUE[word], "wish": wish})), bool)
            self.same([is_true({**single, "wish": wish}), is_true({**TRUE["ever"], "book": TEXT, "wish": wish})],
                      [True, False])

    def test_more_than_16_ends(self):
        many = text_of(Book(MANY_ENDS))
        for word in ("keeps", "breaks"):
            self.wrong({**TRUE[word], "book": many, "level": 2})
            self.wrong({**TRUE[word], "book": many, "level": 2, "wish": "fresh"})
        self.wrong({**TRUE["ever"], "book": many, "look": (2, -5, -5)})
        self.same(is_true({**TRUE["never"], "book": many, "look": (2, 0, 0)}), True)

    def test_16_ends_and_17(self):
        for high, many in ((4, 16), (5, 17)):
            margins = Margins(Ladder(1, [2, 4], [(0, 0), (0, 0), (4, high)]))
            text = text_of(Book(margins, source="drawing"))
            claims = [{"claim": "ever", "book": text, "look": (2, 7, 7), "wish": "fresh"},
                      {"claim": "breaks", "book": text, "level": 2, "width": 1, "wish": "fresh"}]
            for claim in claims:
                if many == 16:
                    self.same(is_true(claim), False)
                else:
                    self.wrong(claim)


class Strips(Case):

    def test_all_small_ones(self):
        """By all moments, for contents of two cells."""
        stretches = [(0, 0), (1, 1), (0, 1)]
        for many in range(4):
            for edits in product(stretches, repeat=many):
                past = History(*edits)
                pairs = [(cell, version) for cell in (0, 1) for version in past.versions(cell)]
                for content in combinations_with_replacement(pairs, 2):
                    self.look(past, list(edits), list(content))

    def look(self, past, edits, pairs):
        moments = [moment for moment in range(past.moment + 1)
                   if all(past.version(cell, moment) == version for cell, version in pairs)]
        for begin, end in ((0, 1), (1, 2), (0, 2), (-1, 1), (1, past.moment + 1)):
            if begin < end:
                claim = {"claim": "moments", "edits": edits, "pairs": pairs, "moments": (begin, end)}
                told = moments == list(range(begin, end))
                self.assertIs(is_true(claim), told)
                self.assertIs(is_paper(claim, None), told)
        none = {"claim": "no moment", "edits": edits, "pairs": pairs}
        self.assertIs(is_true(none), moments == [])
        if moments == []:
            self.same(is_paper(none, paper_for(none)), True)
        for ended, begun, edit in product(pairs, pairs, range(past.moment + 2)):
            bar = (1 <= edit <= past.moment and past.touches(edit, ended[0]) and ended[1] < edit <= begun[1])
            self.assertIs(is_paper(none, (ended, begun, edit)), bar)

    def test_contents_without_pairs(self):
        claim = {"claim": "moments", "edits": [], "pairs": (), "moments": (0, 1)}
        self.same([is_true(claim), paper_for(claim)], [True, None])
        self.same(is_true({**claim, "edits": EDITS}), False)
        self.same(is_true({**claim, "edits": EDITS, "moments": (0, 4)}), True)

    def test_spoilt_bars(self):
        bar = paper_for(TRUE["no moment"])
        self.same(bar, ((3, 1), (4, 3), 2))
        for value in (list(bar), bar[:2], (*bar, 1), bar[::-1], (bar[1], bar[0], 2), ([3, 1], (4, 3), 2),
                      ((3, True), (4, 3), 2), ((3, 1), (4, 3), 1), ((3, 1), (4, 3), 3), ((3, 1), (4, 3), True)):
            self.same(is_paper(TRUE["no moment"], value), False)


class Tight(Case):

    def test_all_small_margins(self):
        missing = 0
        for margins in small_margins():
            sides = margins.ladder.sides()
            if margins.ladder.levels > 3 or any(max(pair) > side for pair, side in zip(margins.pairs(), sides)):
                continue
            text = text_of(Book(margins))
            for level, side in enumerate(sides):
                claim = {"claim": "missed", "book": text, "level": level}
                missed = {(cell, tile) for cell in range(-2 * side, 3 * side) for tile in range(-6, 7)
                          if margins.ladder.holds(level, tile, cell) and not margins.marks(level, tile, cell, cell)}
                self.assertIs(is_true(claim), missed != set())
                for cell, tile in product(range(-2 * side, 3 * side, 1 + side // 3), range(-3, 4)):
                    self.assertIs(is_paper(claim, (cell, tile)), (cell, tile) in missed)
                missing += missed != set()
                if missed:
                    self.same(is_paper(claim, paper_for(claim)), True)
            enough = {"claim": "enough", "book": text}
            self.assertIs(is_true(enough), margins.is_enough())
            self.assertIs(is_paper(enough, None), margins.is_enough())
        self.assertGreater(missing, 20)

    def test_spoilt_papers_for_missed(self):
        self.same(paper_for(TRUE["missed"]), (7, 1))
        for value, told in (((7, 1), True), ((7 + 8 * FAR, 1 + FAR), True), ((-1, 0), True), ((7, 0), False),
                            ((6, 1), False), ((8, 1), False), ([7, 1], False), ((7, 1, 1), False), ((7,), False),
                            ((7, True), False), ((True, 1), False), (("7", 1), False), ((7, None), False), (7, False)):
            self.same(is_paper(TRUE["missed"], value), told)


class Systems(Case):

    def test_certificates(self):
        claim, table = TRUE["never"], System(STRICT, (1, 0, 0), 3, 4, edits=1).table()
        self.same(paper_for(claim), table)
        for value, told in ((table, True), (tuple(table[::-1]), True), (table + table[:1], True), (table[1:], False),
                            (table[:-1], False), (table + [None], False), ([], False), (None, False)):
            self.same(is_paper(claim, value), told)
        self.same(is_paper({**claim, "edits": 2}, table), False)
        self.same(is_paper({**claim, "cells": (4, 3)}, table), False)
        # Cells of the same tiles have the same table.
        self.same(is_paper({**claim, "cells": (1, 7)}, table), True)

    def test_bad_runs(self):
        lines = [line_of(deed) for deed in TORN]
        for word in ("ever", "breaks"):
            claim = TRUE[word]
            for value, told in ((lines, True), (tuple(lines), True), (lines + lines[-1:], True), (lines[:-1], False),
                                (lines[1:], False), (TORN, False), (lines[:-1] + ["look 1 0 0 "], False),
                                (lines[:-1] + [("look", 1, 0, 0)], False), (["busy"] + lines, False), ([], False),
                                (["edit 4 3"] + lines, False), ("\n".join(lines), False), (None, False),
                                (lines[:-1] + ["look 1 0 1"], False), ([None], False), (dict.fromkeys(lines), False)):
                self.same(is_paper(claim, value), told)
        self.same(is_paper({**TRUE["ever"], "look": (1, 1, 1)}, lines), False)
        shifted = ["edit 11 12", "begin 0 2", "end 0", "begin 1 1", "end 0", "look 1 1 1"]
        self.same(is_paper({**TRUE["ever"], "look": (1, 1, 1)}, shifted), True)

    def test_never_by_tables_and_ever_by_all_cells(self):
        told = {True: 0, False: 0}
        for number in range(120):
            draw = random.Random(number)
            book = drawn_book(draw, False, hands=draw.choice((1, 1, 2)))
            level, first, last = drawn_look(draw, book, 0 if book.ladder.levels > 2 else None)
            low, high = book.ladder.held(level, first)[0], book.ladder.held(level, last)[1]
            wish = draw.choice(("whole", "fresh", "forward") if first == last else ("whole",))
            if high - low > 8:
                continue
            claim = {"claim": "ever", "book": text_of(book), "look": (level, first, last), "wish": wish}
            keys = [(x, z, edits) for x, z in product(range(low, high + 1), repeat=2) for edits in (1, 2)
                    if wish == "whole" or x == z and edits == 1]
            try:
                wrong = [key for key in keys
                         if not never(System(book, (level, first, last), *key[:2], edits=key[2]), wish)]
            except TooMany:
                self.fails(TooMany("states", 5000), is_true, claim)
                continue
            self.assertIs(is_true(claim), wrong != [])
            told[wrong != []] += 1
            if wrong:
                self.same(is_paper(claim, paper_for(claim)), True)
            else:
                self.fails(Untrue(), paper_for, claim)
            x, z, edits = draw.choice(keys)
            single = {**claim, "claim": "never", "cells": (x, z), "edits": edits}
            self.assertIs(is_true(single), (x, z, edits) not in wrong)
            if (x, z, edits) not in wrong:
                self.same(is_paper(single, paper_for(single)), True)
        self.assertGreater(min(told.values()), 15)

    def test_far_looks(self):
        text = text_of(Book(PLAIN * FAR, order="any"))
        claim = {"claim": "ever", "book": text, "look": (1, FAR, FAR), "wish": "whole"}
        self.same([is_true(claim), is_paper(claim, paper_for(claim))], [True, True])
        near = {**claim, "look": (1, 0, 0)}
        self.same([is_paper(near, paper_for(claim)), is_paper(claim, paper_for(near))], [False, False])

    def test_tables_that_are_too_great(self):
        look = {"book": GREAT_TEXT, "look": (2, 0, 0)}
        for claim in ({**TRUE["never"], **look, "cells": (0, 3)}, {**TRUE["ever"], **look},
                      {**TRUE["keeps"], "book": GREAT_TEXT, "level": 2},
                      {**TRUE["breaks"], "book": GREAT_TEXT, "level": 2}):
            self.fails(TooMany("states", 5000), is_true, claim)
            self.fails(TooMany("states", 5000), paper_for, claim)
            for value in (None, [], {}, ["edit 0 0"]):
                self.same(is_paper(claim, value), False)

    def test_papers_are_checked_without_a_search(self):
        # The tables are too great, but a bad run is looked at deed by deed.
        claim = {"claim": "ever", "book": GREAT_TEXT, "look": (2, 0, 0), "wish": "whole"}
        lines = ["edit 0 3"] + ["begin 0 0", "end 0", "begin 1 0", "end 0", "begin 2 0", "end 0"]
        lines += ["begin 0 1", "end 0", "begin 0 2", "end 0", "begin 0 3", "end 0", "look 2 0 0"]
        self.same(is_paper(claim, lines), True)
        breaks = {"claim": "breaks", "book": GREAT_TEXT, "level": 2, "width": 1, "wish": "whole"}
        self.same([is_paper(claim, lines[:-1]), is_paper(breaks, lines)], [False, True])


class Everywhere(Case):

    def claims(self, book, wish, level, width):
        rest = {"book": text_of(book), "level": level, "width": width, "wish": wish}
        return {"claim": "keeps", **rest}, {"claim": "breaks", **rest}

    def test_just_one_of_both_is_true(self):
        seen = {True: 0, False: 0}
        for number in range(200):
            draw = random.Random(number)
            book = drawn_book(draw, False, hands=draw.choice((1, 1, 2)))
            level = draw.randrange(min(2, book.ladder.levels))
            wish, width = draw.choice((("whole", 1), ("whole", 2), ("fresh", 1), ("forward", 1)))
            yes, no = self.claims(book, wish, level, width)
            try:
                kept = keeps(book, wish, level, width)
            except TooMany as error:
                for claim in (yes, no):
                    expected = TooMany("states", 5000) if error.what == "states" else InvalidClaim(claim)
                    self.fails(expected, is_true, claim)
                continue
            seen[kept] += 1
            self.same([is_true(yes), is_true(no)], [kept, not kept])
            right, wrong = (yes, no) if kept else (no, yes)
            paper = paper_for(right)
            self.same([is_paper(right, paper), is_paper(wrong, paper)], [True, False])
            self.fails(Untrue(), paper_for, wrong)
            if kept:
                self.same(list(paper), kinds(book, wish, level, width))
                self.same(list(paper), sorted(paper))
            else:
                x, z, edits = first_fault(book, wish, level, width)
                look = (level, 0, width - 1)
                deeds = bad_run(System(book, look, x, z, edits=edits), wish)
                self.same(is_paper(right, [line_of(deed) for deed in deeds]), is_bad_run(book, look, wish, deeds))
        self.assertGreater(min(seen.values()), 20)

    def test_spoilt_papers_for_keeps(self):
        claim = TRUE["keeps"]
        paper = paper_for(claim)
        self.same(is_paper(claim, {key: paper[key] for key in reversed(list(paper))}), True)
        self.same(is_paper(claim, {key: tuple(states[::-1]) for key, states in paper.items()}), True)
        for key in paper:
            less = {other: states for other, states in paper.items() if other != key}
            self.same(is_paper(claim, less), False)
            self.same(is_paper(claim, {**less, key: paper[key][1:]}), False)
            self.same(is_paper(claim, {**less, key: None}), False)
            self.same(is_paper(claim, {**less, str(key): paper[key]}), False)
            x, z, edits = key
            self.same(is_paper(claim, {**less, (x + 1, z, edits): paper[key]}), False)
        for key in ((0, 1, 1), (9, 9, 1), None, "more", (4, 4, 1), (0, 0)):
            self.same(is_paper(claim, {**paper, key: paper[(0, 0, 1)]}), key in paper)
        for value in (list(paper.items()), list(paper), list(paper.values()), None, tuple(paper.items())):
            self.same(is_paper(claim, value), False)

    def test_true_for_1_in_a_key(self):
        claim = TRUE["keeps"]
        paper = paper_for(claim)
        for turned in ((False, 0, 1), (0, False, 1), (0, 0, True)):
            other = {(turned if key == (0, 0, 1) else key): states for key, states in paper.items()}
            self.same(other == paper, True)
            self.same(is_paper(claim, other), False)

    def test_another_of_the_same_kind_is_no_key(self):
        claim = {**TRUE["keeps"], "wish": "fresh"}
        paper = paper_for(claim)
        self.same(list(paper), [(0, 0, 1)])
        self.same(is_paper(claim, {(4, 4, 1): paper[(0, 0, 1)]}), False)
        self.same(is_paper(claim, {**paper, (4, 4, 1): paper[(0, 0, 1)]}), False)

    def test_all_systems_of_small_books(self):
        """A paper for "keeps" has a certificate for each system at all places, by kinds."""
        book = Book(PLAIN, wait=False)
        paper = paper_for(self.claims(book, "whole", 1, 1)[0])
        tables = [states for states in paper.values()]
        for _, system in plain_systems(book, "whole", 1, 1, [0, 2, 4, 7]):
            self.assertIn(system.table(), tables)

    def test_drawn_cells(self):
        for number in range(100):
            draw = random.Random(number)
            book = drawn_book(draw, False)
            look = drawn_look(draw, book)
            x, z = drawn_cell(draw, book, look), drawn_cell(draw, book, look)
            edits = draw.choice((1, 2))
            claim = {"claim": "never", "book": text_of(book), "look": look, "cells": (x, z), "edits": edits,
                     "wish": "whole"}
            system = System(book, look, x, z, edits=edits)
            try:
                self.assertIs(is_true(claim), never(system, "whole"))
            except TooMany:
                self.fails(TooMany("states", 5000), never, system, "whole")


class Interface(Case):

    def test_the_names_of_the_parameters(self):
        self.takes(is_paper, "claim", "value")
        self.takes(is_true, "claim")
        self.takes(paper_for, "claim")


if __name__ == "__main__":
    unittest.main()
