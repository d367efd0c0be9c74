"""States of watched systems as numbers, the deeds that lead from one to the next, and which of them go wrong.

From its highest bits on, a number has the phase, three bits for each watched tile (marked, x, z), and a field of six
bits for each of two drawings: three for the position and one more, then one each for x, z and since; 0 where there is
no drawing. A bit is 0 where the tile is not watched for the cell. So the numbers are in the sequence of their states.
"""

from onceseen.checks import is_count, is_integer
from onceseen.errors import TooMany

MOST_STATES = 5000

PART_BITS = 3
FIELD_BITS = 6
FIELD = 63
FIELDS = 4095


def fields_of(code):
    """The sorted fields of the drawings under way; where there is but one, the second field is empty."""
    first, second = code >> FIELD_BITS & FIELD, code & FIELD
    if second > 0:
        return [first, second]
    return [first] if first > 0 else []


def position_of(field):
    """The position of the tile of a drawing."""
    return (field >> PART_BITS) - 1


def _joined(bits, wanted):
    """Those of the bits that are wanted, in one number."""
    return sum([bit for bit, is_wanted in zip(bits, wanted) if is_wanted])


def _is_part(value, watched):
    """Whether any value can tell, in a state, whether a cell is had, or whether something has happened."""
    if not is_integer(value):
        return False
    return 0 <= value <= 1 if watched else value == -1


def _bits_of(values, flags):
    """The three bits of three parts of a state; None unless each can stand there."""
    if not all([_is_part(value, watched) for value, watched in zip(values, flags)]):
        return None
    high, middle, low = [max(0, int(value)) for value in values]
    return high << 2 | middle << 1 | low


def _parts_of(bits, flags):
    """The three parts of a state that these bits stand for."""
    return tuple([bits >> shift & 1 if watched else -1 for shift, watched in zip((2, 1, 0), flags)])


class Numbering:
    """Which numbers stand for the states, where tiles are watched for x and for z as the flags tell."""

    def __init__(self, edits, flags, hands, alone, drop):
        self._edits = edits
        self._tile_flags = [(True, for_x, for_z) for for_x, for_z in flags]
        self._drawing_flags = [(for_x, for_z, True) for for_x, for_z in flags]
        self._hands = hands
        self._alone = alone
        self._drop = drop

    def _field_of(self, value):
        """The field of any value that is a drawing of a state; None for any other one."""
        if not isinstance(value, tuple) or len(value) != 4:
            return None
        position, x, z, since = value
        if not is_count(position) or position >= len(self._drawing_flags):
            return None
        bits = _bits_of((x, z, since), self._drawing_flags[position])
        if bits is None or (bits & 1 and not self._drop):
            return None
        return (position + 1) << PART_BITS | bits

    def _fields_of(self, value):
        """Both fields in one number, for any value that can be the drawings of a state; None for any other one."""
        if not isinstance(value, tuple) or len(value) > self._hands:
            return None
        fields = [self._field_of(drawing) for drawing in value]
        if None in fields:
            return None
        if len(fields) < 2:
            return sum(fields) << FIELD_BITS
        first, second = fields
        if second < first or (self._alone and position_of(first) == position_of(second)):
            return None
        return first << FIELD_BITS | second

    def code_of(self, value):
        """The number of any value that is a state; None for any other one."""
        if not isinstance(value, tuple) or len(value) != 3:
            return None
        phase, tiles, drawings = value
        if not is_count(phase) or phase > self._edits:
            return None
        if not isinstance(tiles, tuple) or len(tiles) != len(self._tile_flags):
            return None
        code = phase
        for tile, flags in zip(tiles, self._tile_flags):
            if not isinstance(tile, tuple) or len(tile) != 3:
                return None
            bits = _bits_of(tile, flags)
            if bits is None:
                return None
            code = code << PART_BITS | bits
        fields = self._fields_of(drawings)
        return None if fields is None else code << 2 * FIELD_BITS | fields

    def _drawing_of(self, field):
        """The drawing that the field stands for."""
        position = position_of(field)
        return (position, *_parts_of(field, self._drawing_flags[position]))

    def state_of(self, code):
        """The state that the number stands for."""
        rest = code >> 2 * FIELD_BITS
        tiles = []
        for flags in self._tile_flags[::-1]:
            tiles.append(_parts_of(rest, flags))
            rest = rest >> PART_BITS
        return (rest, tuple(tiles[::-1]), tuple([self._drawing_of(field) for field in fields_of(code)]))


class States:
    """What leads from state to state in all systems of one kind: a tuple of the words of the cares, the number of
    watched edits, a tuple (level, whether it is in the look, whether watched for x, for z) for each watched tile, and
    for each kind of edits the bundles."""

    def __init__(self, kind):
        cares, self._edits, tiles, self._bundles = kind
        source, self._order, self._unmark, self._drop, self._hands, self._alone, self._wait = cares
        self._levels = [level for level, _, _, _ in tiles]
        self._in_look = [in_look for _, in_look, _, _ in tiles]
        self._from_strip = [source == "drawing" or level == 0 for level in self._levels]
        flags = [(for_x, for_z) for _, _, for_x, for_z in tiles]
        self.numbering = Numbering(self._edits, flags, self._hands, self._alone, self._drop)
        shifts = [2 * FIELD_BITS + PART_BITS * higher for higher in range(len(tiles) - 1, -1, -1)]
        self._phase_at = 2 * FIELD_BITS + PART_BITS * len(tiles)
        self._marks = [4 << shift for shift in shifts]
        self._xs = [2 << shift if for_x else 0 for shift, (for_x, _) in zip(shifts, flags)]
        self._zs = [1 << shift if for_z else 0 for shift, (_, for_z) in zip(shifts, flags)]
        self._lower_marks = [_joined(self._marks, [lower < level for lower in self._levels]) for level in self._levels]
        self._x_owners = [self._owner(self._xs, level) for level in self._levels]
        self._z_owners = [self._owner(self._zs, level) for level in self._levels]
        self._unrest = sum(self._marks) | FIELDS
        self._look_marks = _joined(self._marks, self._in_look)
        self._look_xs = _joined(self._xs, self._in_look)
        self._look_zs = _joined(self._zs, self._in_look)
        # By the kind of the edits and the positions of the drawings, since an edit may turn what is told of these.
        self._edit_bits = {}

    def _owner(self, bits, level):
        """The bit of the cell's owner at the level before this one."""
        return _joined(bits, [lower == level - 1 and not seen for lower, seen in zip(self._levels, self._in_look)])

    def _bits_of_edits(self, kind, fields):
        """The bits that each edit of the kind sets, while these drawings are under way."""
        first, second = position_of(fields >> FIELD_BITS), position_of(fields & FIELD)
        key = (kind, first, second)
        if key not in self._edit_bits:
            rows = []
            for bundle in self._bundles[kind]:
                bits = sum([self._marks[position] for position in bundle])
                if self._drop:
                    # The lowest bit of a field is that of since.
                    bits = bits + (1 << FIELD_BITS if first in bundle else 0) + (1 if second in bundle else 0)
                rows.append(bits)
            self._edit_bits[key] = rows
        return self._edit_bits[key]

    def edited(self, code, kind):
        """The numbers behind the edits of the kind, by the sequence of its bundles."""
        raised = code if kind == 0 else code + (1 << self._phase_at)
        return [raised | bits for bits in self._bits_of_edits(kind, code & FIELDS)]

    def _beginnable(self, code):
        """The positions of the tiles of which a begin is let."""
        drawn = [position_of(field) for field in fields_of(code)]
        if len(drawn) == self._hands:
            return []
        due = [at for at, mark in enumerate(self._marks) if code & mark]
        if self._alone:
            due = [at for at in due if at not in drawn]
        if self._order != "any":
            due = [at for at in due if not code & self._lower_marks[at]]
        if self._order == "settled":
            levels = [self._levels[at] for at in drawn]
            due = [at for at in due if not any([level < self._levels[at] for level in levels])]
        return due

    def read(self, code, at):
        """The field of a drawing of the tile at this position that is begun now."""
        if self._from_strip[at]:
            phase = code >> self._phase_at
            has_x, has_z = phase >= 1, phase >= self._edits
        else:
            has_x, has_z = code & self._x_owners[at] > 0, code & self._z_owners[at] > 0
        return (at + 1) << PART_BITS | (4 if self._xs[at] and has_x else 0) | (2 if self._zs[at] and has_z else 0)

    def begun(self, code, at):
        """The number behind a begin of the tile at this position, which is let."""
        read = self.read(code, at)
        # There is one drawing at most, and it stands in the first field.
        first = code >> FIELD_BITS & FIELD
        both = read << FIELD_BITS | first
        if 0 < first < read:
            both = first << FIELD_BITS | read
        after = (code - (code & FIELDS)) | both
        return after - self._marks[at] if self._unmark == "begin" else after

    def ended(self, code, field):
        """The number behind the end of a drawing with this field."""
        first, second = code >> FIELD_BITS & FIELD, code & FIELD
        other = second if field == first else first
        after = (code - (code & FIELDS)) | other << FIELD_BITS
        if self._drop and field & 1:
            return after
        at = position_of(field)
        gone = self._xs[at] | self._zs[at] | (self._marks[at] if self._unmark == "end" else 0)
        shown = (self._xs[at] if field & 4 else 0) | (self._zs[at] if field & 2 else 0)
        return (after - (after & gone)) | shown

    def _kinds(self, code):
        """The kinds of the edits that can come next."""
        phase = code >> self._phase_at
        return (0, phase + 1) if phase < self._edits else (0,)

    def nexts(self, code):
        """The numbers to which one deed leads, perhaps some twice."""
        found = [after for kind in self._kinds(code) for after in self.edited(code, kind)]
        found.extend([self.begun(code, at) for at in self._beginnable(code)])
        found.extend([self.ended(code, field) for field in fields_of(code)])
        return [after for after in found if after != code]

    def deed_between(self, code, after):
        """What leads from one number to another: ("edit", kind, bundle), ("begin", position, field), ("end", field)."""
        for kind in self._kinds(code):
            for bundle, told in zip(self._bundles[kind], self.edited(code, kind)):
                if told == after:
                    return ("edit", kind, bundle)
        for at in self._beginnable(code):
            if self.begun(code, at) == after:
                return ("begin", at, self.read(code, at))
        return [("end", field) for field in fields_of(code) if self.ended(code, field) == after][0]

    def reached(self):
        """A dict from all numbers to which deeds lead from the start to the one from which each is reached first."""
        came = {0: None}
        fresh = [0]
        while fresh:
            found = []
            for code in fresh:
                for after in self.nexts(code):
                    if after not in came:
                        came[after] = code
                        found.append(after)
                if len(came) > MOST_STATES:
                    raise TooMany("states", MOST_STATES)
            fresh = found
        return came

    def _is_torn(self, code):
        """Whether the look is let, and what the watched edits did is shown in part, or the later without the first."""
        if self._wait:
            drawn = any([self._in_look[position_of(field)] for field in fields_of(code)])
            if drawn or code & self._look_marks:
                return False
        if self._edits == 2:
            return code & self._look_xs != self._look_xs and code & self._look_zs > 0
        both = self._look_xs | self._look_zs
        return 0 < code & both < both

    def _is_stale(self, code):
        """Whether all that is watched is at rest behind an edit, and the tile of the look lacks the cell."""
        if code >> self._phase_at == 0 or code & self._unrest:
            return False
        return code & self._look_xs != self._look_xs

    def falling_back(self, code):
        """The fields of the drawings whose end makes a tile of the look lack x again."""
        fields = [field for field in fields_of(code) if not field & 4 and not field & 1]
        return [field for field in fields if self._in_look[position_of(field)] and code & self._xs[position_of(field)]]

    def is_wrong(self, code, wish):
        """Whether the state goes wrong for the wish."""
        if wish == "whole":
            return self._is_torn(code)
        if wish == "fresh":
            return self._is_stale(code)
        return self.falling_back(code) != []
