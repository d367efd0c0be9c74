"""Work: how many tiles an edit marks, and how many at least, at most and on average where its width alone is known."""

from math import gcd

from onceseen.checks import check_positive, check_stretch, is_count
from onceseen.errors import InvalidCount


def _rows(margins):
    """For each level the side and the tuple (back, ahead)."""
    return list(zip(margins.ladder.sides(), margins.pairs()))


def counts_at(margins, first, width):
    """How many tiles the edit of this first and width marks, level by level."""
    last = first + width - 1
    return [(last + ahead) // side - (first - back) // side + 1 for side, (back, ahead) in _rows(margins)]


def _breaks(margins, width):
    """The sorted firsts of the period, 0 among them, between which no level's count changes."""
    period = margins.ladder.period
    firsts = [0]
    for side, (back, ahead) in _rows(margins):
        # There first - back, or last + ahead, comes to be owned by the next tile.
        for begin in (back % side, (1 - width - ahead) % side):
            firsts.extend(list(range(begin, period, side)))
    return sorted(set(firsts))


def _works(margins, width):
    """The sorted tuples (first, work) of a period, with all firsts at which the work may change."""
    check_positive(width)
    return [(first, sum(counts_at(margins, first, width))) for first in _breaks(margins, width)]


def count_rows(margins, width):
    """The lists of counts, level by level, that the edits of this width have, each once, as sorted tuples."""
    return sorted(set([tuple(counts_at(margins, first, width)) for first in _breaks(margins, width)]))


def count_sums(margins, width):
    """How many tiles the edits of this width mark, level by level, with all firsts of a period together."""
    period = margins.ladder.period
    return [(width - 1 + back + ahead + side) * (period // side) for side, (back, ahead) in _rows(margins)]


def lowest_terms(top, bottom):
    """The fraction of two numbers greater than 0 as a tuple (top, bottom) in lowest terms."""
    common = gcd(top, bottom)
    return (top // common, bottom // common)


def work_at(margins, level, first, last):
    """How many tiles of the level an edit of this stretch marks."""
    begin, end = margins.marked(level, first, last)
    return end - begin + 1


def work(margins, first, last):
    """How many tiles an edit of this stretch marks, at all levels together."""
    check_stretch(first, last)
    return sum(counts_at(margins, first, last - first + 1))


def least_work(margins, width):
    """The least work of edits of this width, with the least first from 0 on that has it."""
    rows = _works(margins, width)
    least = min([int(many) for _, many in rows])
    return (least, min([int(first) for first, many in rows if many == least]))


def greatest_work(margins, width):
    """The greatest work of edits of this width, with the least first from 0 on that has it."""
    rows = _works(margins, width)
    greatest = max([int(many) for _, many in rows])
    return (greatest, min([int(first) for first, many in rows if many == greatest]))


def mean_work(margins, width):
    """The average work of edits of this width, as a tuple (top, bottom) in lowest terms."""
    check_positive(width)
    return lowest_terms(sum(count_sums(margins, width)), margins.ladder.period)


def turns(margins, width):
    """The sorted firsts of the period at which the work is not the same as for the first before."""
    return [first for first, many in _works(margins, width) if many != sum(counts_at(margins, first - 1, width))]


def growth(margins):
    """By how much the work of each edit becomes greater if its last cell is raised by the period."""
    period = margins.ladder.period
    return sum([period // side for side in margins.ladder.sides()])


def widest(margins, most):
    """The greatest width whose greatest work is at most this; None if there is none."""
    if not is_count(most):
        raise InvalidCount(most)
    spare = most - greatest_work(margins, 1)[0]
    if spare < 0:
        return None
    period = margins.ladder.period
    # The greatest work never falls with the width: low keeps the bound, high, a period further, does not.
    low = 1 + spare // growth(margins) * period
    high = low + period
    while high - low > 1:
        middle = (low + high) // 2
        if greatest_work(margins, middle)[0] <= most:
            low = middle
        else:
            high = middle
    return low
