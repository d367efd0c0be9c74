"""What the tests share: values of wrong kinds, comparisons that tell True from 1, small histories and ladders."""

import inspect
import unittest
from itertools import product

from onceseen.history import History
from onceseen.ladders import Ladder
from onceseen.margins import Margins

# Values that are no INTEGER, hence no cell, moment or number of an edit either.
NO_INTEGERS = [True, False, None, "", "3", b"3", [], [3], (), (3,), (3, 4), {}, {3: 4}, {3}, History()]

# Values that are no stretch.
NO_STRETCHES = [
    True, False, None, 3, "", "34", (), (3,), (3, 4, 5), [3, 4], [], {3: 4}, {3, 4}, (4, 3), (0, -1),
    (True, 4), (0, True), (False, 0), (3, None), (None, 3), ("3", 4), (3, "4"), ((3, 4), 5), ([3], [4]), ((3, 4),),
]

# Values that are no pair of a cell and a version.
NO_PAIRS = [
    True, False, None, 3, "", "31", (), (3,), (3, 1, 0), [3, 1], [], {3: 1}, {3, 1}, (3, -1), (True, 1), (False, 0),
    (3, True), (3, False), (3, None), (None, 0), ("3", 1), (3, "1"), ([3], 1), (3, [1]), ((3, 1), 0), ((3, 1),),
]

# Values that do not pass for a list.
NO_LISTS = [True, False, None, 0, 3, "", "34", {}, {3: 4}, set(), {3}, range(3), History()]

FAR = 10 ** 29 + 7

# Values that are no INTEGER greater than 0, such as a width or a side.
NO_POSITIVES = NO_INTEGERS + [0, -1, -FAR]

# Values that are no COUNT.
NO_COUNTS = NO_INTEGERS + [-1, -FAR]

# Values that are no tuple of two COUNTS.
NO_COUNT_COUPLES = [
    True, False, None, 3, "", "34", (), (3,), (3, 4, 5), [3, 4], [], {3: 4}, {3, 4}, (-1, 0), (0, -1), (True, 4),
    (0, True), (False, 0), (0, False), (3, None), (None, 3), ("3", 4), (3, "4"), ((3, 4), 5), ([3], [4]), ((3, 4),),
]

# Values that are no two ends of a stretch, as (first, last).
NO_ENDS = [
    (4, 3), (0, -1), (FAR, -FAR), (True, 4), (0, True), (False, 0), (3, None), (None, 3), ("3", 4), (3, "4"),
    ((3, 4), 5), ([3], [4]), (None, None), (3, History()),
]


def no_levels(levels):
    """Values that are no number of a level where there are so many levels."""
    return NO_INTEGERS + [-1, levels, levels + 1, FAR, -FAR]


def no_looks(levels):
    """Values that are no look where there are so many levels."""
    wrong = [
        None, True, False, 0, 3, "", "000", (), (0,), (0, 0), (0, 0, 0, 0), [0, 0, 0], {0: 0}, ((0, 0, 0),),
        (True, 0, 0), (False, 0, 0), (0, True, 1), (0, False, 0), (0, 0, True), (0, 0, False), (0, 1, True),
        (None, 0, 0), (0, None, 0), (0, 0, None), ("0", 0, 0), (0, "0", 0), (0, 0, "0"), ([0], 0, 0), (0, (0,), 0),
        (-1, 0, 0), (levels, 0, 0), (FAR, 0, 0), (0, 0, 2), (0, 0, -1), (0, 1, 0), (0, FAR, -FAR),
    ]
    return wrong + ([(2, 0, 1), (2, -1, 0), (2, 0, 2)] if levels > 2 else [(2, 0, 0)])


def alike(one, other):
    """Whether both values are equal and of the same kinds, also inside, so that True is not taken for 1."""
    if type(one) is not type(other):
        return False
    if isinstance(one, (list, tuple)):
        return len(one) == len(other) and all(alike(a, b) for a, b in zip(one, other))
    return one == other


def small_histories():
    """All histories of up to three edits within the cells from -1 to 1."""
    stretches = [(first, last) for first in (-1, 0, 1) for last in (-1, 0, 1) if first <= last]
    return [History(*edits) for many in range(4) for edits in product(stretches, repeat=many)]


def small_ladders():
    """Ladders of one to three levels with sides from 1 to 3, and some of four, with edges up to the whole side."""
    ladders = [Ladder(side, [], [edge]) for side in (1, 2, 3) for edge in product(range(side + 1), repeat=2)]
    for side, factor in product((1, 2, 3), (2, 3, 4)):
        top = side * factor
        for low in ((0, 0), (side, 0), (0, 1), (side, side)):
            for high in ((0, 0), (top, 0), (0, 1), (1, side), (top - 1, top), (top, top)):
                ladders.append(Ladder(side, [factor], [low, high]))
    ladders.append(Ladder(1, [2, 2], [(1, 0), (0, 2), (3, 1)]))
    ladders.append(Ladder(2, [2, 3], [(1, 2), (4, 0), (2, 12)]))
    ladders.append(Ladder(3, [3, 2], [(0, 0), (2, 9), (17, 18)]))
    ladders.append(Ladder(1, [2, 2, 2]))
    ladders.append(Ladder(1, [2, 3, 4], [(1, 1), (0, 2), (6, 1), (5, 24)]))
    ladders.append(Ladder(2, [4, 2, 3], [(0, 1), (8, 7), (0, 16), (48, 3)]))
    return ladders


def small_margins():
    """Margins of small ladders: none, just enough, one less on one side, one more, and greater than the side."""
    found = []
    for ladder in small_ladders():
        least = [(high, low) for low, high in [ladder.edge(level) for level in range(ladder.levels)]]
        sides = ladder.sides()
        found.append(Margins(ladder, [(0, 0) for _ in least]))
        found.append(Margins(ladder, least))
        found.append(Margins(ladder, [(max(0, back - 1), ahead) for back, ahead in least]))
        found.append(Margins(ladder, [(back, max(0, ahead - 1)) for back, ahead in least]))
        found.append(Margins(ladder, [(back + side, 2 * side + 1) for side, (back, _) in zip(sides, least)]))
    return found


class Case(unittest.TestCase):
    """A test case that looks at kinds of values, and at all that an error tells."""

    def same(self, one, other):
        """Both are equal, down to the kinds of what is inside."""
        self.assertTrue(alike(one, other), f"{one!r} is not just {other!r}")

    def fails(self, error, call, *passed, **named):
        """The call raises an error just like this one: its class and its attributes."""
        with self.assertRaises(type(error)) as caught:
            call(*passed, **named)
        self.assertIs(type(caught.exception), type(error))
        self.assertEqual(sorted(vars(caught.exception)), sorted(vars(error)))
        for name, value in vars(error).items():
            self.same(getattr(caught.exception, name), value)

    def fails_always(self, error, call, values, *rest):
        """The call raises this kind of error, with the value itself, for each of these values as its first argument."""
        for value in values:
            self.fails(error(value), call, value, *rest)

    def takes(self, call, *names):
        """The call has just these parameters, in this sequence."""
        self.assertEqual(list(inspect.signature(call).parameters), list(names))

    def stands_in(self, kind, module, names, properties=()):
        """The class is defined in the module, and all these methods and properties in the class itself."""
        self.assertEqual(kind.__module__, module)
        for name in names:
            self.assertIn(name, vars(kind))
        for name in properties:
            self.assertIsInstance(vars(kind)[name], property)
