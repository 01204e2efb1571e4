"""The errors: what each is made from, keeps and is derived from."""

import unittest

from tests.values import ODD_VALUES
from valueshown import errors
from valueshown.errors import ShownError

SHOWN = {
    "BadRow": "index", "BadBlock": "index", "BadInput": "index", "BadLabels": "block", "BadStop": "stop",
    "BadWay": "index", "BadShown": "what", "BadValues": "count", "BadShape": "part", "BadMark": "mark",
    "BadOption": "option", "BadWish": "index", "BadTable": "which", "BadFrame": "frame", "BadText": "line",
    "BadLine": "line", "BadTruth": "truth", "Untrue": "what",
}
APART = {
    "UnknownBlock": (KeyError, "block"), "UnknownName": (KeyError, "name"),
    "TooMany": (OverflowError, "limit"), "NothingToUndo": (RuntimeError, "name"),
}
ATTRIBUTES = {**SHOWN, **{name: attribute for name, (_, attribute) in APART.items()}}


class ErrorsTest(unittest.TestCase):
    def test_base_of_all(self):
        self.assertEqual(ShownError.__bases__, (ValueError,))

    def test_bases_of_shown_errors(self):
        for name in SHOWN:
            self.assertEqual(getattr(errors, name).__bases__, (ShownError,), name)

    def test_bases_of_errors_apart(self):
        for name, (base, _) in APART.items():
            self.assertEqual(getattr(errors, name).__bases__, (base,), name)

    def test_no_error_is_derived_from_another(self):
        for one in ATTRIBUTES:
            for other in ATTRIBUTES:
                if one != other:
                    self.assertFalse(issubclass(getattr(errors, one), getattr(errors, other)), (one, other))

    def test_each_is_defined_in_errors(self):
        for name in [*ATTRIBUTES, "ShownError"]:
            self.assertEqual(getattr(errors, name).__module__, "valueshown.errors")

    def test_keeps_any_value_by_position(self):
        for name, attribute in ATTRIBUTES.items():
            for value in ODD_VALUES:
                error = getattr(errors, name)(value)
                self.assertTrue(getattr(error, attribute) is value, name)

    def test_keeps_any_value_by_name(self):
        for name, attribute in ATTRIBUTES.items():
            for value in ODD_VALUES:
                error = getattr(errors, name)(**{attribute: value})
                self.assertTrue(getattr(error, attribute) is value, name)

    def test_one_argument(self):
        for name in ATTRIBUTES:
            with self.assertRaises(TypeError):
                getattr(errors, name)()
            with self.assertRaises(TypeError):
                getattr(errors, name)(1, 2)

    def test_can_be_raised_and_caught(self):
        for name, attribute in SHOWN.items():
            with self.assertRaises(ShownError) as caught:
                raise getattr(errors, name)(("a", 1))
            self.assertEqual(getattr(caught.exception, attribute), ("a", 1))


if __name__ == "__main__":
    unittest.main()
