"""Moments of contents: at which ones all of its versions stand, and the bars that tell that there are none.

What is shown of more cells than could be gone through is told by pieces: tuples (first, last, version) in the sequence
of their cells, for the pairs of the version and each cell from the first to the last one.
"""

from onceseen.checks import check_moment, is_integer


def _stands(history, content):
    """Where the version of each pair stands, by the sorted pairs; WrongVersion comes from the first wrong one."""
    return [history.stands(cell, version) for cell, version in content.pairs()]


def _common(stands, end):
    """The moments (begin, end) that all of these have in common; there are none unless begin is less than end."""
    begin = 0
    for low, high in stands:
        begin = max(begin, int(low))
        end = min(end, int(high))
    return (begin, end)


def moments_of(history, content):
    """The moments (begin, end) that the content is of, end not among them; None if there are none."""
    begin, end = _common(_stands(history, content), history.moment + 1)
    return (begin, end) if begin < end else None


def is_of(history, content, moment):
    """Whether the content is of this moment."""
    check_moment(moment, history.moment)
    begin, end = _common(_stands(history, content), history.moment + 1)
    return begin <= moment < end


def bar_of(history, content):
    """A bar (ended, begun, edit) for the content; None if it is of one moment."""
    stands = _stands(history, content)
    begin, end = _common(stands, history.moment + 1)
    if begin < end:
        return None
    pairs = content.pairs()
    begun = [pair for pair in pairs if pair[1] == begin][0]
    ended = [pair for pair, (_, high) in zip(pairs, stands) if high == end][0]
    # A version that stands no longer at a moment of the history was ended by the edit of that very number.
    return (ended, begun, end)


def is_bar(history, content, value):
    """Whether any value is a bar for the content."""
    _stands(history, content)
    if not isinstance(value, tuple) or len(value) != 3:
        return False
    ended, begun, edit = value
    if ended not in content or begun not in content or not is_integer(edit):
        return False
    cell, version = ended
    return version < edit <= begun[1] and history.touches(edit, cell)


def pieces_of(stretches, first, last):
    """The pieces from the first to the last cell behind all these edits."""
    pieces = []
    gaps = [(first, last)]
    # The last edit of a cell tells its version, so each edit, from the last one on, takes what is left of its cells.
    for number in range(len(stretches), 0, -1):
        low, high = stretches[number - 1]
        left = []
        for begin, end in gaps:
            if end < low or high < begin:
                left.append((begin, end))
                continue
            pieces.append((max(int(begin), low), min(int(end), high), number))
            if begin < low:
                left.append((begin, low - 1))
            if high < end:
                left.append((high + 1, end))
        gaps = left
    pieces.extend([(begin, end, 0) for begin, end in gaps])
    return sorted(set(pieces))


def pieces_within(pieces, first, last):
    """What of the pieces lies from the first to the last cell."""
    return [(max(int(begin), first), min(int(end), last), version) for begin, end, version in pieces
            if begin <= last and first <= end]


def _greatest(pieces):
    """The greatest version in the pieces."""
    return max([int(version) for _, _, version in pieces])


def bar_of_pieces(stretches, pieces):
    """A bar for all pairs of the pieces; None if they are of one moment."""
    greatest = _greatest(pieces)
    begun = [(first, version) for first, _, version in pieces if version == greatest][0]
    for first, last, version in pieces:
        for number in range(version + 1, greatest + 1):
            low, high = stretches[number - 1]
            if low <= last and first <= high:
                return ((max(int(first), low), version), begun, number)
    return None


def moments_of_pieces(stretches, pieces):
    """The moments (begin, end) that all pairs of the pieces are of; None if there are none."""
    if bar_of_pieces(stretches, pieces) is not None:
        return None
    begin = _greatest(pieces)
    for number in range(begin + 1, len(stretches) + 1):
        low, high = stretches[number - 1]
        if any([low <= last and first <= high for first, last, _ in pieces]):
            return (begin, number)
    return (begin, len(stretches) + 1)
