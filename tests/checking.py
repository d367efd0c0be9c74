"""What the tests share: values of wrong kinds, comparisons that tell True from 1, and small histories."""

import unittest
from itertools import product

from onceseen.history import History

# Values that are no INTEGER, hence no cell, moment or number of an edit either.
NO_INTEGERS = [True, False, None, "", "3", b"3", [], [3], (), (3,), (3, 4), {}, {3: 4}, {3}, History()]

# Values that are no stretch.
NO_STRETCHES = [
    True, False, None, 3, "", "34", (), (3,), (3, 4, 5), [3, 4], [], {3: 4}, {3, 4}, (4, 3), (0, -1),
    (True, 4), (0, True), (False, 0), (3, None), (None, 3), ("3", 4), (3, "4"), ((3, 4), 5), ([3], [4]), ((3, 4),),
]

# Values that are no pair of a cell and a version.
NO_PAIRS = [
    True, False, None, 3, "", "31", (), (3,), (3, 1, 0), [3, 1], [], {3: 1}, {3, 1}, (3, -1), (True, 1), (False, 0),
    (3, True), (3, False), (3, None), (None, 0), ("3", 1), (3, "1"), ([3], 1), (3, [1]), ((3, 1), 0), ((3, 1),),
]

# Values that do not pass for a list.
NO_LISTS = [True, False, None, 0, 3, "", "34", {}, {3: 4}, set(), {3}, range(3), History()]

FAR = 10 ** 29 + 7


def alike(one, other):
    """Whether both values are equal and of the same kinds, also inside, so that True is not taken for 1."""
    if type(one) is not type(other):
        return False
    if isinstance(one, (list, tuple)):
        return len(one) == len(other) and all(alike(a, b) for a, b in zip(one, other))
    return one == other


def small_histories():
    """All histories of up to three edits within the cells from -1 to 1."""
    stretches = [(first, last) for first in (-1, 0, 1) for last in (-1, 0, 1) if first <= last]
    return [History(*edits) for many in range(4) for edits in product(stretches, repeat=many)]


class Case(unittest.TestCase):
    """A test case that looks at kinds of values, and at all that an error tells."""

    def same(self, one, other):
        """Both are equal, down to the kinds of what is inside."""
        self.assertTrue(alike(one, other), f"{one!r} is not just {other!r}")

    def fails(self, error, call, *passed, **named):
        """The call raises an error just like this one: its class and its attributes."""
        with self.assertRaises(type(error)) as caught:
            call(*passed, **named)
        self.assertIs(type(caught.exception), type(error))
        self.assertEqual(sorted(vars(caught.exception)), sorted(vars(error)))
        for name, value in vars(error).items():
            self.same(getattr(caught.exception, name), value)
