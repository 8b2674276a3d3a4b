import unittest

from widestkind import errors
from widestkind.ratios import Ratio

FIELDS = {
    "ByZero": (), "BadText": ("at",), "Twice": ("name",), "BadName": ("name",), "BadFilling": ("name",),
    "BadLine": ("number",), "Unknown": ("name",), "BadMacro": ("name",), "BadTree": ("given",),
    "BadPlace": ("given",), "BadKnot": ("given",), "NoKind": (), "BadKind": ("given",), "BadForm": ("number",),
    "BadDeeds": ("given",), "BadWeight": ("given",), "BadUnits": ("given",), "BadBudget": ("given",),
    "BadStep": ("given",), "TooMany": ("count",), "NoSuch": ("name",), "NothingToUndo": (), "NothingToRedo": (),
}


class Errors(unittest.TestCase):
    def test_classes(self):
        self.assertEqual(errors.KindError.__bases__, (ValueError,))
        for name in FIELDS:
            self.assertEqual(getattr(errors, name).__bases__, (errors.KindError,), name)
        found = [name for name, one in vars(errors).items() if isinstance(one, type)]
        self.assertEqual(set(found), set(FIELDS) | {"KindError"})

    def test_fields_hold_the_very_objects(self):
        values = [None, True, 7, "x", [1, [2]], {"a": 1}, (1, "b"), Ratio(1, 2)]
        for name, fields in FIELDS.items():
            if not fields:
                getattr(errors, name)()
            for value in values if fields else []:
                error = getattr(errors, name)(value)
                self.assertIs(getattr(error, fields[0]), value)
                named = getattr(errors, name)(**{fields[0]: value})
                self.assertIs(getattr(named, fields[0]), value)

    def test_they_can_be_caught_as_value_errors(self):
        with self.assertRaises(ValueError):
            raise errors.BadText(3)
        with self.assertRaises(errors.KindError):
            raise errors.NoKind()


if __name__ == "__main__":
    unittest.main()
