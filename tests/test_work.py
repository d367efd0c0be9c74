"""Work: how many tiles edits mark."""

import unittest
from fractions import Fraction

from onceseen import work as module
from onceseen.errors import InvalidCount, InvalidLevel, InvalidStretch
from onceseen.ladders import Ladder
from onceseen.margins import Margins
from onceseen.work import growth, greatest_work, least_work, mean_work, turns, widest, work, work_at
from tests.checking import FAR, NO_COUNTS, NO_ENDS, NO_POSITIVES, Case, no_levels, small_margins

PLAIN = Margins(Ladder(4, [2]))
SMALL = small_margins()[::3] + small_margins()[-20:]
# A ladder of four levels whose period has 31 digits, with margins below and above the sides.
GREAT = Margins(Ladder(FAR, [4, 2, 3], [(0, 0), (1, 0), (FAR, 5), (7, 7)]),
                [(3, 0), (0, 4 * FAR), (FAR - 1, 9), (30 * FAR, 2)])


def plain_work_at(margins, level, first, last):
    """How many tiles near by are marked, by trying them."""
    side = margins.ladder.side(level)
    back, ahead = margins.pair(level)
    return len({cell // side for cell in range(first - back, last + ahead + 1)})


def plain_work(margins, first, last):
    return sum(plain_work_at(margins, level, first, last) for level in range(margins.ladder.levels))


def plain_works(margins, width, begin=0):
    """The works of the edits with all firsts of a period."""
    return [plain_work(margins, first, first + width - 1) for first in range(begin, begin + margins.ladder.period)]


def widths(margins):
    """Widths of 1, 2, 3, of a period, one more and one less, and of more than two periods."""
    period = margins.ladder.period
    return sorted({1, 2, 3, max(1, period - 1), period, period + 1, 2 * period + 1})


class Work(Case):

    def test_the_printed_values(self):
        self.same([work(PLAIN, 3, 4), least_work(PLAIN, 2), greatest_work(PLAIN, 2), mean_work(PLAIN, 2),
                   turns(PLAIN, 2), widest(PLAIN, 4)], [3, (2, 0), (4, 7), (19, 8), [0, 3, 4, 7], 5])

    def test_by_trying_all_tiles_near_by(self):
        for margins in SMALL:
            for first in range(-5, 6):
                for width in (1, 2, 5):
                    last = first + width - 1
                    self.same(work(margins, first, last), plain_work(margins, first, last))
                    for level in range(margins.ladder.levels):
                        self.same(work_at(margins, level, first, last), plain_work_at(margins, level, first, last))

    def test_a_period_further_it_is_the_same(self):
        for margins in SMALL:
            period = margins.ladder.period
            for first in (-3, 0, 4):
                told = work(margins, first, first + 2)
                self.same(work(margins, first + period, first + 2 + period), told)
                self.same(work(margins, first - FAR * period, first + 2 - FAR * period), told)

    def test_far_edits(self):
        self.same(work_at(PLAIN, 0, 0, 4 * FAR - 1), FAR)
        self.same(work_at(PLAIN, 0, -1, 4 * FAR), FAR + 2)
        self.same(work(PLAIN, -8 * FAR, 8 * FAR - 1), 4 * FAR + 2 * FAR)
        self.same(work(GREAT, 0, 0), 2 + 2 + 2 + 3)

    def test_no_stretch(self):
        for first, last in NO_ENDS:
            self.fails(InvalidStretch((first, last)), work, PLAIN, first, last)
            self.fails(InvalidStretch((first, last)), work_at, PLAIN, 1, first, last)

    def test_no_level_comes_first(self):
        for value in no_levels(2):
            self.fails(InvalidLevel(value), work_at, PLAIN, value, 0, 0)
            self.fails(InvalidLevel(value), work_at, PLAIN, value, 1, 0)

    def test_by_name(self):
        self.same(work(last=4, first=3, margins=PLAIN), 3)
        self.same(work_at(last=4, first=3, level=0, margins=PLAIN), 2)


class Extremes(Case):

    def test_by_trying_all_firsts(self):
        for margins in SMALL:
            for width in widths(margins):
                works = plain_works(margins, width)
                least, greatest = min(works), max(works)
                self.same(least_work(margins, width), (least, works.index(least)))
                self.same(greatest_work(margins, width), (greatest, works.index(greatest)))

    def test_the_mean_by_trying_all_firsts(self):
        for margins in SMALL:
            for width in widths(margins):
                works = plain_works(margins, width, begin=-4)
                mean = Fraction(sum(works), len(works))
                self.same(mean_work(margins, width), (mean.numerator, mean.denominator))

    def test_turns_by_trying_all_firsts(self):
        for margins in SMALL:
            for width in widths(margins):
                period = margins.ladder.period
                works = [plain_work(margins, first, first + width - 1) for first in range(-1, period)]
                self.same(turns(margins, width), [first for first in range(period) if works[first] != works[first + 1]])

    def test_a_ladder_of_one_cell(self):
        margins = Margins(Ladder(1))
        self.same([least_work(margins, 5), greatest_work(margins, 5), mean_work(margins, 5), turns(margins, 5)],
                  [(5, 0), (5, 0), (5, 1), []])

    def test_widths_of_a_great_period(self):
        margins = Margins(Ladder(FAR, [2]))
        self.same([least_work(margins, 1), greatest_work(margins, 1), turns(margins, 1)], [(2, 0), (2, 0), []])
        self.same([least_work(margins, 2), greatest_work(margins, 2)], [(2, 0), (4, 2 * FAR - 1)])
        self.same(turns(margins, 2), [0, FAR - 1, FAR, 2 * FAR - 1])
        self.same(mean_work(margins, 2), (4 * FAR + 3, 2 * FAR))
        self.same([least_work(margins, 2 * FAR), greatest_work(margins, 2 * FAR)], [(3, 0), (5, 1)])
        self.same([least_work(margins, 2 * FAR + 1), greatest_work(margins, 2 * FAR + 1)], [(5, 0), (5, 0)])
        self.same(turns(margins, 2 * FAR), [0, 1, FAR, FAR + 1])
        self.same([least_work(margins, 2 * FAR - 1), greatest_work(margins, 2 * FAR - 1)], [(3, 0), (5, 2)])

    def test_four_levels_of_a_great_period(self):
        for width in (1, 2, FAR - 1, FAR, 24 * FAR - 1, 24 * FAR, 24 * FAR + 1, FAR * FAR + 5):
            rows = {first: work(GREAT, first, first + width - 1) for first in turns(GREAT, width) + [0]}
            for call, best in ((least_work, min(rows.values())), (greatest_work, max(rows.values()))):
                self.same(call(GREAT, width), (best, min(first for first in rows if rows[first] == best)))
            for first in turns(GREAT, width):
                self.assertNotEqual(rows[first], work(GREAT, first - 1, first + width - 2))
            # Between two turns the work stays, and all turns together tell the mean.
            begins = sorted(rows)
            ends = begins[1:] + [24 * FAR]
            for begin, end in zip(begins, ends):
                for first in (begin, (begin + end) // 2, end - 1):
                    self.assertEqual(work(GREAT, first, first + width - 1), rows[begin])
            mean = Fraction(sum(rows[begin] * (end - begin) for begin, end in zip(begins, ends)), 24 * FAR)
            self.same(mean_work(GREAT, width), (mean.numerator, mean.denominator))

    def test_lowest_terms(self):
        self.same(mean_work(PLAIN, 4), (Fraction(7, 4) + Fraction(11, 8)).as_integer_ratio())
        self.same(mean_work(Margins(Ladder(4)), 5), (2, 1))

    def test_no_width(self):
        for value in NO_POSITIVES:
            for call in (least_work, greatest_work, mean_work, turns):
                self.fails(InvalidCount(value), call, PLAIN, value)

    def test_by_name_and_new_lists(self):
        for call in (least_work, greatest_work, mean_work, turns):
            self.same(call(width=2, margins=PLAIN), call(PLAIN, 2))
        turns(PLAIN, 2).append(9)
        self.same(turns(PLAIN, 2), [0, 3, 4, 7])


class Growth(Case):

    def test_a_last_cell_that_is_a_period_further(self):
        for margins in SMALL + [GREAT]:
            period = margins.ladder.period
            for first, last in ((0, 0), (-3, 4), (5, 5), (-FAR, FAR)):
                told = work(margins, first, last + period) - work(margins, first, last)
                self.same(growth(margins), told)

    def test_numbers(self):
        self.same([growth(PLAIN), growth(Margins(Ladder(9))), growth(GREAT)], [3, 1, 1 + 3 + 6 + 24])


class Widest(Case):

    def test_by_trying_all_widths(self):
        for margins in SMALL[::2]:
            greatest = [max(plain_works(margins, width)) for width in range(1, 2 * margins.ladder.period + 4)]
            for most in range(greatest[-1]):
                kept = [width for width, many in enumerate(greatest, start=1) if many <= most]
                self.same(widest(margins, most), kept[-1] if kept else None)

    def test_the_width_is_the_last_that_keeps_it(self):
        for margins in SMALL + [GREAT]:
            least = greatest_work(margins, 1)[0]
            for most in (least, least + 1, least + growth(margins), least + growth(margins) - 1, 10 ** 39, FAR):
                width = widest(margins, most)
                self.assertLessEqual(greatest_work(margins, width)[0], most)
                self.assertGreater(greatest_work(margins, width + 1)[0], most)

    def test_bounds_that_no_width_keeps(self):
        for margins in SMALL + [GREAT]:
            least = greatest_work(margins, 1)[0]
            for most in (0, 1, least - 1):
                if most < least:
                    self.same(widest(margins, most), None)

    def test_no_bound(self):
        for value in NO_COUNTS:
            self.fails(InvalidCount(value), widest, PLAIN, value)

    def test_by_name(self):
        self.same(widest(most=4, margins=PLAIN), 5)


class Interface(Case):

    def test_the_functions_and_their_parameters(self):
        told = {"work": ["margins", "first", "last"], "work_at": ["margins", "level", "first", "last"],
                "least_work": ["margins", "width"], "greatest_work": ["margins", "width"],
                "mean_work": ["margins", "width"], "turns": ["margins", "width"], "growth": ["margins"],
                "widest": ["margins", "most"]}
        for name, params in told.items():
            self.takes(getattr(module, name), *params)
            self.assertEqual(getattr(module, name).__module__, "onceseen.work")

    def test_the_margins_stay(self):
        margins = Margins(Ladder(4, [2]))
        for call in (least_work, greatest_work, mean_work, turns, widest):
            call(margins, 7)
        self.assertEqual(margins, PLAIN)


if __name__ == "__main__":
    unittest.main()
