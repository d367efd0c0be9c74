"""The classes of errors: their places, parameters and attributes."""

import inspect
import unittest

from onceseen import errors
from tests.checking import Case

ROOTS = [("StripError", ValueError), ("MissingError", LookupError), ("StateError", RuntimeError),
         ("LimitError", ArithmeticError)]

VALUE, POSITION, PLACE = ("value",), ("position",), ("level", "tile")

KINDS = {
    "StripError": {
        "InvalidCell": VALUE, "InvalidStretch": VALUE, "InvalidStretches": POSITION, "InvalidMoment": VALUE,
        "InvalidEdit": VALUE, "InvalidPairs": POSITION, "InvalidSide": VALUE, "InvalidFactors": POSITION,
        "InvalidEdges": POSITION, "InvalidEdge": VALUE, "InvalidLevel": VALUE, "InvalidTile": VALUE,
        "InvalidCount": VALUE, "InvalidMargins": POSITION, "InvalidBox": VALUE, "InvalidCare": ("name", "value"),
        "InvalidHand": VALUE, "InvalidLook": VALUE, "InvalidEdits": VALUE, "InvalidWish": VALUE,
        "InvalidState": VALUE, "InvalidText": ("line",), "InvalidClaim": VALUE, "InvalidCommand": VALUE,
        "InvalidDeed": VALUE,
    },
    "MissingError": {"WrongVersion": ("cell", "number"), "NotHeld": ("level", "tile", "cell")},
    "StateError": {
        "OtherLadder": ("one", "other"), "OtherLevels": ("one", "other"), "NotMarked": PLACE, "NoHand": (),
        "AtWork": PLACE, "OutOfOrder": ("level",), "MustWait": PLACE, "NotSafe": (), "Untrue": (),
        "NothingToUndo": (), "DeedFailed": POSITION, "CommandFailed": POSITION,
    },
    "LimitError": {"TooMany": ("what", "limit")},
}

ALL = [(base, name, params) for base, kinds in KINDS.items() for name, params in kinds.items()]

ANY = [None, True, 0, -5, 10 ** 29, "", "word", b"x", (), (1, (2, None)), [], [[1], {}], {}, {1: [2]}, {1, 2},
       object(), len, ValueError("inner")]


class Places(Case):

    def test_there_are_these_classes_and_no_others(self):
        defined = [name for name, _ in inspect.getmembers(errors, inspect.isclass)]
        self.assertEqual(sorted(defined), sorted([root for root, _ in ROOTS] + [name for _, name, _ in ALL]))

    def test_the_roots_stand_directly_below_an_error_of_python(self):
        for name, above in ROOTS:
            self.assertEqual(getattr(errors, name).__bases__, (above,), name)

    def test_each_class_stands_directly_below_its_root_alone(self):
        for base, name, _ in ALL:
            self.assertEqual(getattr(errors, name).__bases__, (getattr(errors, base),), name)

    def test_each_class_is_defined_in_this_file(self):
        for _, name, _ in ALL:
            self.assertEqual(getattr(errors, name).__module__, "onceseen.errors", name)


class Making(Case):

    def test_the_parameters_have_these_names_in_this_sequence(self):
        for _, name, params in ALL:
            if params:
                self.assertEqual(tuple(inspect.signature(getattr(errors, name)).parameters), params, name)

    def test_made_by_position_with_any_values(self):
        for _, name, params in ALL:
            for at in range(len(ANY)):
                values = [ANY[(at + k) % len(ANY)] for k in range(len(params))]
                self.holds(getattr(errors, name)(*values), params, values)

    def test_made_by_name_with_any_values(self):
        for _, name, params in ALL:
            for at in range(len(ANY)):
                values = [ANY[(at + k) % len(ANY)] for k in range(len(params))]
                named = dict(reversed(list(zip(params, values))))
                self.holds(getattr(errors, name)(**named), params, values)

    def holds(self, error, params, values):
        self.assertEqual(sorted(vars(error)), sorted(params))
        for param, value in zip(params, values):
            self.assertIs(getattr(error, param), value)

    def test_too_few_and_too_many_values_are_no_call(self):
        for _, name, params in ALL:
            if params:
                for many in (len(params) - 1, len(params) + 1):
                    with self.assertRaises(TypeError, msg=name):
                        getattr(errors, name)(*[1] * many)

    def test_the_roots_can_be_made_alone(self):
        for name, above in ROOTS:
            self.assertIsInstance(getattr(errors, name)(), above)


class Catching(Case):

    def test_each_is_caught_by_itself_its_root_and_the_error_of_python(self):
        roots = dict(ROOTS)
        for base, name, params in ALL:
            kind = getattr(errors, name)
            for wider in (kind, getattr(errors, base), roots[base]):
                with self.assertRaises(wider):
                    raise kind(*params)

    def test_none_is_caught_by_another_root(self):
        for base, name, _ in ALL:
            for other, above in ROOTS:
                if other != base:
                    self.assertFalse(issubclass(getattr(errors, name), getattr(errors, other)), (name, other))
                    self.assertFalse(issubclass(getattr(errors, name), above), (name, above))


if __name__ == "__main__":
    unittest.main()
