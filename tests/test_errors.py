"""[5]: the classes of errors."""

import unittest

from millpapers import errors

FIELDS = {
    "InvalidList": "value", "InvalidItem": "value", "InvalidNumber": "value", "InvalidMill": "value",
    "InvalidHoldings": "value", "InvalidRow": "value", "InvalidBox": "value", "InvalidChain": "value",
    "InvalidBrew": "value", "InvalidBands": "value", "InvalidEntries": "value", "InvalidBook": "value",
    "UnlikeBooks": "value", "InvalidText": "value", "InvalidLot": "value", "InvalidPrices": "value",
    "InvalidClaim": "value", "InvalidName": "name", "TakenName": "name", "UnknownName": "name", "Lacking": "name",
    "UnknownBooking": "number", "UnknownClaim": "number", "NothingToUndo": None,
}


class ErrorsTest(unittest.TestCase):
    def test_base(self):
        self.assertEqual(errors.MillError.__bases__, (ValueError,))

    def test_all_classes_are_derived_directly(self):
        for name in FIELDS:
            with self.subTest(name):
                made = getattr(errors, name)
                self.assertEqual(made.__bases__, (errors.MillError,))
                self.assertEqual(made.__module__, "millpapers.errors")

    def test_no_class_is_derived_from_another_one(self):
        for name in FIELDS:
            for other in FIELDS:
                if name != other:
                    self.assertFalse(issubclass(getattr(errors, name), getattr(errors, other)), (name, other))

    def test_fields(self):
        for name, field in FIELDS.items():
            if field is None:
                continue
            made, held = getattr(errors, name), ["x"]
            with self.subTest(name):
                self.assertIs(getattr(made(held), field), held)
                self.assertIs(getattr(made(**{field: held}), field), held)
                self.assertIsNone(getattr(made(), field))
                self.assertEqual(list(made(held).__dict__), [field])
                with self.assertRaises(TypeError):
                    made(held, held)
                self.assertIn("__init__", made.__dict__)

    def test_nothing_to_undo_has_no_field(self):
        self.assertEqual(errors.NothingToUndo().__dict__, {})

    def test_raised_and_caught(self):
        for name, field in FIELDS.items():
            made = getattr(errors, name)
            for base in (made, errors.MillError, ValueError):
                with self.assertRaises(base):
                    raise made() if field is None else made(3)


if __name__ == "__main__":
    unittest.main()
