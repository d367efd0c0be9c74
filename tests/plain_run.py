"""A plain run for the tests: it keeps for each tile and each of its cells the version that it shows."""

import copy

from onceseen.errors import (AtWork, InvalidHand, MustWait, NoHand, NothingToUndo, NotMarked, OutOfOrder, TooMany)


class PlainRun:
    """Deeds by the words of the document. What a method returns may be the error that the deed raises."""

    def __init__(self, book):
        self.book = book
        self.edits = []
        self.marks = set()
        self.drawings = {}
        self.shown = {}
        self.done = []
        self.before = []

    def keep(self, deed):
        state = (self.edits, self.marks, self.drawings, self.shown)
        self.before.append(copy.deepcopy(state))
        self.done.append(deed)

    def undo(self):
        if not self.done:
            return NothingToUndo()
        self.edits, self.marks, self.drawings, self.shown = self.before.pop()
        return self.done.pop()

    def held(self, level, tile):
        side = self.book.ladder.side(level)
        low, high = self.book.ladder.edge(level)
        return range(tile * side - low, tile * side + side - 1 + high + 1)

    def shows(self, level, tile):
        """A dict of the cells that the tile holds, with their versions."""
        return self.shown.get((level, tile)) or {cell: 0 for cell in self.held(level, tile)}

    def version(self, cell, moment):
        return max([0] + [number for number, (first, last) in enumerate(self.edits[:moment], start=1)
                          if first <= cell <= last])

    def would_mark(self, first, last):
        found = set()
        for level in range(self.book.ladder.levels):
            back, ahead = self.book.margins.pair(level)
            side = self.book.ladder.side(level)
            found |= {(level, cell // side) for cell in range(first - back, last + ahead + 1)}
        return found

    def edit(self, first, last):
        found = self.would_mark(first, last)
        if len(found) > 500:
            return TooMany("marks", 500)
        self.keep(("edit", first, last))
        self.edits.append((first, last))
        self.marks |= found
        for drawing in self.drawings.values():
            if (drawing["level"], drawing["tile"]) in found:
                drawing["marked behind"] = True
        return len(self.edits)

    def barred(self, level, tile):
        """The error that a begin raises; None if it is let."""
        if (level, tile) not in self.marks:
            return NotMarked(level, tile)
        if len(self.drawings) >= self.book.hands:
            return NoHand()
        drawn = [(drawing["level"], drawing["tile"]) for drawing in self.drawings.values()]
        if self.book.alone and (level, tile) in drawn:
            return AtWork(level, tile)
        barring = set()
        if self.book.order in ("finest", "settled"):
            barring |= {lower for lower, _ in self.marks if lower < level}
        if self.book.order == "settled":
            barring |= {lower for lower, _ in drawn if lower < level}
        return OutOfOrder(min(barring)) if barring else None

    def reads(self, level, tile):
        if level == 0 or self.book.source == "drawing":
            return {cell: self.version(cell, len(self.edits)) for cell in self.held(level, tile)}
        side = self.book.ladder.side(level - 1)
        return {cell: self.shows(level - 1, cell // side)[cell] for cell in self.held(level, tile)}

    def begin(self, level, tile):
        error = self.barred(level, tile)
        if error:
            return error
        self.keep(("begin", level, tile))
        hand = 0 if 0 not in self.drawings else 1
        self.drawings[hand] = {"level": level, "tile": tile, "read": self.reads(level, tile), "marked behind": False}
        if self.book.unmark == "begin":
            self.marks.remove((level, tile))
        return hand

    def end(self, hand):
        if hand not in self.drawings:
            return InvalidHand(hand)
        self.keep(("end", hand))
        drawing = self.drawings.pop(hand)
        if self.book.drop and drawing["marked behind"]:
            return False
        place = (drawing["level"], drawing["tile"])
        self.shown[place] = drawing["read"]
        if self.book.unmark == "end":
            self.marks.discard(place)
        return True

    def pairs(self, look):
        level, first, last = look
        return {pair for tile in range(first, last + 1) for pair in self.shows(level, tile).items()}

    def moments(self, look):
        """All moments that what is shown is of."""
        pairs = self.pairs(look)
        return [moment for moment in range(len(self.edits) + 1)
                if all(self.version(cell, moment) == version for cell, version in pairs)]

    def look_at(self, look):
        level, first, last = look
        drawn = [(drawing["level"], drawing["tile"]) for drawing in self.drawings.values()]
        for tile in range(first, last + 1):
            if self.book.wait and ((level, tile) in self.marks or (level, tile) in drawn):
                return MustWait(level, tile)
        moments = self.moments(look)
        return (moments[0], moments[-1] + 1) if moments else None

    def is_bar(self, look, bar):
        """Whether this is a bar for what the tiles of the look show, by the words."""
        (cell, version), begun, edit = bar
        first, last = self.edits[edit - 1]
        return ({(cell, version), begun} <= self.pairs(look) and edit >= 1 and first <= cell <= last
                and version < edit <= begun[1])

    def busy(self):
        return [(hand, self.drawings[hand]["level"], self.drawings[hand]["tile"]) for hand in sorted(self.drawings)]

    def at_rest(self):
        return not self.marks and not self.drawings
