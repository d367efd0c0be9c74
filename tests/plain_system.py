"""A plain reading of watched systems for the tests: states as the document tells them, stretches tried one by one."""

from itertools import combinations_with_replacement, product


class PlainSystem:
    """A watched system by the words of the document."""

    def __init__(self, book, look, x, z, edits):
        self.book, self.look, self.x, self.z, self.edits = book, look, x, z, edits
        self.level, self.first, self.last = look
        self.look_tiles = [(self.level, tile) for tile in range(self.first, self.last + 1)]
        found = {tile for tile in self.look_tiles if book.wait or self.holds(tile, x) or self.holds(tile, z)}
        if book.source == "finer":
            found |= {(lower, cell // self.side(lower)) for lower in range(self.level) for cell in (x, z)}
        self.watched = tuple(sorted(found))
        self.flags = tuple((self.watched_for(tile, x), self.watched_for(tile, z)) for tile in self.watched)

    def side(self, level):
        return self.book.ladder.side(level)

    def holds(self, place, cell):
        level, tile = place
        low, high = self.book.ladder.edge(level)
        return tile * self.side(level) - low <= cell <= (tile + 1) * self.side(level) - 1 + high

    def watched_for(self, place, cell):
        return self.holds(place, cell) if place in self.look_tiles else cell // self.side(place[0]) == place[1]

    def marks(self, place, first, last):
        level, tile = place
        back, ahead = self.book.margins.pair(level)
        return (first - back) // self.side(level) <= tile <= (last + ahead) // self.side(level)

    def bundle(self, first, last):
        return tuple(at for at, place in enumerate(self.watched) if self.marks(place, first, last))

    def bundles(self, kind):
        """By all stretches within a few sides of what the look holds."""
        if kind == 2 and self.edits == 1:
            return []
        touched = {0: [], 1: [self.x, self.z] if self.edits == 1 else [self.x], 2: [self.z]}[kind]
        side = self.side(self.level)
        cells = range((self.first - 3) * side, (self.last + 4) * side + 1)
        return sorted({self.bundle(first, last) for first, last in combinations_with_replacement(cells, 2)
                       if all(first <= cell <= last for cell in touched)})

    def start(self):
        return (0, tuple((0, 0 if for_x else -1, 0 if for_z else -1) for for_x, for_z in self.flags), ())

    def edited(self, state, kind, bundle):
        phase, tiles, drawings = state
        tiles = [(1, x, z) if at in bundle else (marked, x, z) for at, (marked, x, z) in enumerate(tiles)]
        turned = [(at, x, z, 1 if self.book.drop and at in bundle else since) for at, x, z, since in drawings]
        return (phase + (kind > 0), tuple(tiles), tuple(sorted(turned)))

    def reads(self, state, at):
        phase, tiles, _ = state
        level, _ = self.watched[at]
        read = []
        for which, (cell, needed) in enumerate([(self.x, 1), (self.z, self.edits)]):
            if not self.flags[at][which]:
                read.append(-1)
            elif level == 0 or self.book.source == "drawing":
                read.append(1 if phase >= needed else 0)
            else:
                owner = (level - 1, cell // self.side(level - 1))
                read.append(tiles[self.watched.index(owner)][1 + which])
        return tuple(read)

    def lets(self, state, at):
        _, tiles, drawings = state
        level = self.watched[at][0]
        under_way = [position for position, _, _, _ in drawings]
        if tiles[at][0] != 1 or len(drawings) >= self.book.hands or self.book.alone and at in under_way:
            return False
        lower_marks = any(tile[0] == 1 and self.watched[other][0] < level for other, tile in enumerate(tiles))
        lower_drawings = any(self.watched[position][0] < level for position in under_way)
        return {"any": True, "finest": not lower_marks,
                "settled": not lower_marks and not lower_drawings}[self.book.order]

    def begun(self, state, at):
        phase, tiles, drawings = state
        tiles = list(tiles)
        if self.book.unmark == "begin":
            tiles[at] = (0, *tiles[at][1:])
        return (phase, tuple(tiles), tuple(sorted([*drawings, (at, *self.reads(state, at), 0)])))

    def ended(self, state, which):
        phase, tiles, drawings = state
        at, x, z, since = drawings[which]
        tiles = list(tiles)
        if not (self.book.drop and since == 1):
            tiles[at] = (0 if self.book.unmark == "end" else tiles[at][0], x, z)
        return (phase, tuple(tiles), drawings[:which] + drawings[which + 1:])

    def nexts(self, state, bundles):
        """The sorted next states, where the bundles of each kind are known."""
        found = {self.edited(state, 0, bundle) for bundle in bundles[0]}
        if state[0] < self.edits:
            found |= {self.edited(state, state[0] + 1, bundle) for bundle in bundles[state[0] + 1]}
        found |= {self.begun(state, at) for at in range(len(self.watched)) if self.lets(state, at)}
        found |= {self.ended(state, which) for which in range(len(state[2]))}
        return sorted(found - {state})

    def table(self, bundles, most=5000):
        """The sorted table; None if it has more than so many states."""
        found, fresh = {self.start()}, [self.start()]
        while fresh:
            for after in self.nexts(fresh.pop(), bundles):
                if after not in found:
                    found.add(after)
                    fresh.append(after)
            if len(found) > most:
                return None
        return sorted(found)

    def goes_wrong(self, state, wish):
        phase, tiles, drawings = state
        positions = [at for at, place in enumerate(self.watched) if place in self.look_tiles]
        xs, zs = [tiles[at][1] for at in positions], [tiles[at][2] for at in positions]
        busy = [at for at, _, _, _ in drawings]
        if wish == "whole":
            if self.book.wait and any(tiles[at][0] == 1 or at in busy for at in positions):
                return False
            return 0 in xs and 1 in zs if self.edits == 2 else 1 in xs + zs and 0 in xs + zs
        if wish == "fresh":
            return phase > 0 and all(tile[0] == 0 for tile in tiles) and not drawings and 0 in xs
        return any(tiles[at][1] == 1 and x == 0 and (not self.book.drop or since == 0)
                   for at, x, _, since in drawings if at in positions)

    def states(self):
        """All values of the form of a state; there may be many."""
        flags = [[(0, 1) if watched else (-1,) for watched in pair] for pair in self.flags]
        tiles = [list(product((0, 1), *pair)) for pair in flags]
        sinces = (0, 1) if self.book.drop else (0,)
        single = [(at, x, z, since) for at, pair in enumerate(flags) for x, z in product(*pair) for since in sinces]
        drawings = [()] + [(one,) for one in single]
        if self.book.hands == 2:
            drawings += [(one, other) for one, other in combinations_with_replacement(single, 2)
                         if not self.book.alone or one[0] != other[0]]
        return product(range(self.edits + 1), product(*tiles), drawings)
