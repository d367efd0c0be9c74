"""Runs: the deeds done with a book, one after another, and what its tiles show meanwhile."""

from onceseen.checks import check_cell_list, check_level, check_look, check_tile, is_deed, is_integer, is_list
from onceseen.contents import Content
from onceseen.errors import (AtWork, DeedFailed, InvalidDeed, InvalidHand, LimitError, MissingError, MustWait, NoHand,
                             NotHeld, NothingToUndo, NotMarked, OutOfOrder, StateError, StripError, TooMany)
from onceseen.history import History
from onceseen.moments import bar_of_pieces, moments_of_pieces, pieces_of, pieces_within

MOST_MARKS = 500


class Drawing:
    """A drawing under way: its tile, what was read, and whether an edit has marked the tile behind the begin."""

    def __init__(self, level, tile, pieces, late):
        self.level = level
        self.tile = tile
        self.pieces = pieces
        self.late = late

    def of(self, level, tile):
        """Whether the drawing is of this tile."""
        return self.level == level and self.tile == tile

    def behind(self, marked):
        """The Drawing behind an edit that marks, at each level, the tiles from a first to a last one."""
        first, last = marked[self.level]
        return Drawing(self.level, self.tile, self.pieces, self.late or first <= self.tile <= last)


class Step:
    """A deed that was done, with what takes it back."""

    def __init__(self, deed, drawings):
        self.deed = deed
        self.drawings = drawings
        self.new_marks = []
        self.old_marks = []
        self.old_pictures = []


class Board:
    """What a run has come to, and the steps that led there.

    The keys of the dicts in due are the marked tiles of each level. The drawings are told by their hands, and the
    pictures, pieces of the tiles that have been drawn anew, by (level, tile).
    """

    def __init__(self, levels):
        self.stretches = []
        self.due = [{} for _ in range(levels)]
        # Steps and copies keep this very dict, so that it is never changed: another one is put in its place.
        self.drawings = {}
        self.pictures = {}
        self.steps = []

    def copy(self):
        """A Board of its own, equal in all."""
        board = Board(len(self.due))
        board.stretches = list(self.stretches)
        board.due = [dict(tiles) for tiles in self.due]
        board.drawings = self.drawings
        board.pictures = {place: self.pictures[place] for place in self.pictures}
        board.steps = list(self.steps)
        return board

    def step(self, deed):
        """A new step for the deed, behind all others."""
        step = Step(deed, self.drawings)
        self.steps.append(step)
        return step

    def mark(self, step, level, tile):
        """Mark the tile by an edit."""
        if tile not in self.due[level]:
            self.due[level][tile] = True
            step.new_marks.append((level, tile))

    def take_mark(self, step, level, tile):
        """Take the mark of the tile away, if there is one."""
        if tile in self.due[level]:
            del self.due[level][tile]
            step.old_marks.append((level, tile))

    def show(self, step, level, tile, pieces):
        """Let the tile show these pieces."""
        step.old_pictures.append((level, tile, self.pictures.get((level, tile))))
        self.pictures[(level, tile)] = pieces

    def take_back(self):
        """Take the last step back; returns its deed."""
        step = self.steps.pop()
        for level, tile in step.new_marks:
            del self.due[level][tile]
        for level, tile in step.old_marks:
            self.due[level][tile] = True
        for level, tile, pieces in step.old_pictures:
            del self.pictures[(level, tile)]
            if pieces is not None:
                self.pictures[(level, tile)] = pieces
        self.drawings = step.drawings
        if step.deed[0] == "edit":
            self.stretches.pop()
        return step.deed


class Kept:
    """A Board to go back to, above the one kept before."""

    def __init__(self, board, below):
        self.board = board
        self.below = below


class Trying:
    """A context manager that gives a Run, which at the end is as it was at the beginning."""

    def __init__(self, run):
        self._run = run
        self._kept = None

    def __enter__(self):
        self._kept = Kept(self._run._board.copy(), self._kept)
        return self._run

    def __exit__(self, kind, value, trace):
        run = self._run
        run._board = self._kept.board
        self._kept = self._kept.below


class Run:
    """A run of a book, at first without edits; its deeds change it."""

    def __init__(self, book):
        self._book = book
        self._board = Board(book.ladder.levels)

    @property
    def book(self):
        """The Book."""
        return self._book

    @property
    def history(self):
        """The History of the edits."""
        stretches = self._board.stretches
        return History(*stretches)

    @property
    def at_rest(self):
        """Whether no tile is marked and no drawing is under way."""
        return len(self._board.drawings) == 0 and not any([len(tiles) > 0 for tiles in self._board.due])

    def __len__(self):
        return len(self._board.steps)

    def _check_place(self, level, tile):
        """Raise InvalidLevel or InvalidTile unless this is a tile of the book's ladder."""
        check_level(level, self._book.ladder.levels)
        check_tile(tile)

    def _under_way(self, level, tile):
        """Whether a drawing of the tile is under way."""
        return any([drawing.of(level, tile) for drawing in self._board.drawings.values()])

    def picture(self, level, tile):
        """The pieces that the tile shows."""
        first, last = self._book.ladder.held(level, tile)
        return self._board.pictures.get((level, tile), [(first, last, 0)])

    def _sight(self, look):
        """The pieces that all tiles of the look show."""
        level, first, last = look
        return [piece for tile in range(first, last + 1) for piece in self.picture(level, tile)]

    def marked(self, level):
        """The sorted list of the marked tiles of the level."""
        check_level(level, self._book.ladder.levels)
        return sorted(set(list(self._board.due[level])))

    def busy(self):
        """The list of tuples (hand, level, tile) of the drawings under way, by hands."""
        drawings = self._board.drawings
        return [(hand, drawings[hand].level, drawings[hand].tile) for hand in range(self._book.hands)
                if hand in drawings]

    def version(self, level, tile, cell):
        """The version of the cell that the tile shows."""
        if not self._book.ladder.holds(level, tile, cell):
            raise NotHeld(level, tile, cell)
        return [version for first, last, version in self.picture(level, tile) if first <= cell <= last][0]

    def content(self, look, cells):
        """The Content of all pairs with these cells that the tiles of the look show."""
        check_look(look, self._book.ladder.levels)
        check_cell_list(cells)
        pieces = self._sight(look)
        return Content([(cell, version) for cell in cells for first, last, version in pieces if first <= cell <= last])

    def bar(self, look):
        """A bar for all that the tiles of the look show; None if it is of one moment."""
        check_look(look, self._book.ladder.levels)
        return bar_of_pieces(self._board.stretches, self._sight(look))

    def edit(self, first, last=None):
        """Edit the stretch, or the cell; returns the moment."""
        if last is None:
            last = first
        margins = self._book.margins
        marked = [margins.marked(level, first, last) for level in range(margins.ladder.levels)]
        if sum([high - low + 1 for low, high in marked]) > MOST_MARKS:
            raise TooMany("marks", MOST_MARKS)
        board = self._board
        step = board.step(("edit", first, last))
        board.stretches.append((first, last))
        for level, (low, high) in enumerate(marked):
            for tile in range(low, high + 1):
                board.mark(step, level, tile)
        board.drawings = {hand: drawing.behind(marked) for hand, drawing in board.drawings.items()}
        return len(board.stretches)

    def _check_begin(self, level, tile):
        """Raise the error that tells why a begin of the tile is not let, if it is not."""
        book, board = self._book, self._board
        if tile not in board.due[level]:
            raise NotMarked(level, tile)
        if len(board.drawings) == book.hands:
            raise NoHand()
        if book.alone and self._under_way(level, tile):
            raise AtWork(level, tile)
        if book.order == "any":
            return
        for lower in range(level):
            drawn = any([drawing.level == lower for drawing in board.drawings.values()])
            if len(board.due[lower]) > 0 or (book.order == "settled" and drawn):
                raise OutOfOrder(lower)

    def lets(self, level, tile):
        """Whether a begin of the tile is let."""
        self._check_place(level, tile)
        try:
            self._check_begin(level, tile)
        except StateError:
            return False
        return True

    def _read(self, level, tile):
        """The pieces that a drawing of the tile reads now."""
        ladder = self._book.ladder
        first, last = ladder.held(level, tile)
        if level == 0 or self._book.source == "drawing":
            return pieces_of(self._board.stretches, first, last)
        pieces = []
        low, high = ladder.parts(level, tile)
        for part in range(low, high + 1):
            begin, end = ladder.owned(level - 1, part)
            pieces.extend(pieces_within(self.picture(level - 1, part), max(int(begin), first), min(int(end), last)))
        return pieces

    def begin(self, level, tile):
        """Begin a drawing of the tile; returns its hand."""
        self._check_place(level, tile)
        self._check_begin(level, tile)
        board = self._board
        hand = [number for number in range(self._book.hands) if number not in board.drawings][0]
        step = board.step(("begin", level, tile))
        board.drawings = {**board.drawings, hand: Drawing(level, tile, self._read(level, tile), False)}
        if self._book.unmark == "begin":
            board.take_mark(step, level, tile)
        return hand

    def end(self, hand):
        """End the drawing of the hand; returns whether what was read is shown now."""
        board = self._board
        if not is_integer(hand) or hand not in board.drawings:
            raise InvalidHand(hand)
        drawing = board.drawings[hand]
        step = board.step(("end", hand))
        board.drawings = {other: board.drawings[other] for other in board.drawings if other != hand}
        if self._book.drop and drawing.late:
            return False
        board.show(step, drawing.level, drawing.tile, drawing.pieces)
        if self._book.unmark == "end":
            board.take_mark(step, drawing.level, drawing.tile)
        return True

    def look_at(self, look):
        """Look at the tiles; returns the moments (begin, end) of what they show, or None if it is of none."""
        check_look(look, self._book.ladder.levels)
        level, first, last = look
        for tile in range(first, last + 1):
            if self._book.wait and (tile in self._board.due[level] or self._under_way(level, tile)):
                raise MustWait(level, tile)
        return moments_of_pieces(self._board.stretches, self._sight(look))

    def do(self, deed):
        """Do the deed; returns what its method returns."""
        if not is_deed(deed):
            raise InvalidDeed(deed)
        word, *numbers = deed
        if word == "edit":
            return self.edit(*numbers)
        if word == "begin":
            return self.begin(*numbers)
        if word == "end":
            return self.end(*numbers)
        return self.look_at(tuple(numbers))

    def do_all(self, deeds):
        """Do all of these deeds, or none; returns the list of what their methods return."""
        if not is_list(deeds):
            raise InvalidDeed(None)
        done = len(self)
        told = []
        for position, deed in enumerate(deeds):
            try:
                told.append(self.do(deed))
            except (StripError, MissingError, StateError, LimitError) as e:
                while len(self) > done:
                    self._board.take_back()
                raise DeedFailed(position) from e
        return told

    def deeds(self):
        """The list of the deeds, without looks, that were done and not taken back."""
        return [step.deed for step in self._board.steps]

    def undo(self):
        """Take the last deed back; returns it."""
        if len(self) == 0:
            raise NothingToUndo()
        return self._board.take_back()

    def copy(self):
        """A Run of its own, equal in all."""
        run = Run(self._book)
        run._board = self._board.copy()
        return run

    def trying(self):
        """A context manager that gives the Run; at its end the Run is as it was at its beginning."""
        return Trying(self)

    def tried_by(self, action):
        """What the action returns for the Run, which then is as it was, also if the action raises an error."""
        with self.trying() as run:
            return action(run)
