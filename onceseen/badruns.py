"""Bad runs: lists of deeds, such as a Run of the book can do, the last of which shows the fault."""

from onceseen.checks import check_look, check_wish, is_list
from onceseen.errors import DeedFailed
from onceseen.runs import Run
from onceseen.states import position_of


class Play:
    """A run that does what leads a watched system from state to state.

    Tiles that are not watched are drawn only where they bar a begin, or the rest at the end, and at once, so that no
    state of the system turns by it. The fields are those of the drawings of watched tiles, by their hands.
    """

    def __init__(self, system):
        self._system = system
        self._run = Run(system.book)
        self._fields = {}

    def deeds(self):
        """The list of the deeds that were done."""
        return self._run.deeds()

    def draw_marked(self, levels):
        """Draw all marked tiles of the first so many levels, the finest ones first."""
        for level in range(levels):
            for tile in self._run.marked(level):
                self._run.end(self._run.begin(level, tile))

    def _edit(self, kind, bundle):
        """Do an edit of this kind that marks just the watched tiles of the bundle."""
        first, last = self._system.shortest(kind)[bundle]
        self._run.edit(first, last)
        if self._system.book.drop:
            # The lowest bit tells that an edit has marked the tile since the begin.
            self._fields = {hand: field | (1 if position_of(field) in bundle else 0)
                            for hand, field in self._fields.items()}

    def _begin(self, position, field):
        """Begin a drawing of a watched tile, which reads what the field tells."""
        level, tile = self._system.watched[position]
        if self._system.book.order != "any":
            self.draw_marked(level)
        self._fields[self._run.begin(level, tile)] = field

    def end(self, field):
        """End a drawing with this field."""
        hand = [told for told, other in self._fields.items() if other == field][0]
        del self._fields[hand]
        self._run.end(hand)

    def step(self, code, after):
        """Do what leads from the one state to the other, both told by their numbers."""
        word, *told = self._system.states.deed_between(code, after)
        if word == "edit":
            self._edit(*told)
        elif word == "begin":
            self._begin(*told)
        else:
            self.end(*told)


def _path_to_wrong(states, wish):
    """The numbers from the start to the first that goes wrong, one deed after another; empty if none does."""
    came = states.reached()
    path = [code for code in came if states.is_wrong(code, wish)][:1]
    while path and came[path[-1]] is not None:
        path.append(came[path[-1]])
    return path[::-1]


def bad_run(system, wish):
    """The list of the deeds of a bad run for the look of the system; None if no state of the table goes wrong."""
    check_wish(wish, system.has_all_wishes())
    path = _path_to_wrong(system.states, wish)
    if path == []:
        return None
    play = Play(system)
    for code, after in zip(path, path[1:]):
        play.step(code, after)
    if wish == "whole":
        return [*play.deeds(), ("look", *system.look)]
    if wish == "fresh":
        play.draw_marked(system.book.ladder.levels)
    else:
        play.end(system.states.falling_back(path[-1])[0])
    return play.deeds()


def _is_torn(run, look, deeds):
    """Whether the run can do the deeds, the last of which is the look and shows what is of no moment."""
    told = run.do_all(deeds)
    return deeds[-1] == ("look", *look) and told[-1] is None


def _is_stale(run, look, deeds):
    """Whether the run can do the deeds, and is at rest behind them while the tile is not up to date."""
    run.do_all(deeds)
    if not run.at_rest:
        return False
    moments = run.look_at(look)
    return moments is None or moments[1] <= run.history.moment


def _falls_back(run, look, deeds):
    """Whether the run can do the deeds, the last of which is an end that makes the tile go back."""
    level, tile, _ = look
    run.do_all(deeds[:-1])
    before = run.picture(level, tile)
    run.do_all(deeds[-1:])
    if deeds[-1][0] != "end":
        return False
    pieces = run.picture(level, tile)
    return any([begin <= last and first <= end and version < other for first, last, version in pieces
                for begin, end, other in before])


def is_bad_run(book, look, wish, value):
    """Whether any value is a bad run for the look and the wish."""
    check_look(look, book.ladder.levels)
    check_wish(wish, look[1] == look[2])
    if not is_list(value) or len(value) == 0:
        return False
    run = Run(book)
    try:
        if wish == "whole":
            return _is_torn(run, look, value)
        return _is_stale(run, look, value) if wish == "fresh" else _falls_back(run, look, value)
    except DeedFailed:
        return False
