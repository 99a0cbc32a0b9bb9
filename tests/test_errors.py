import unittest

from holdback.errors import (
    HoldError,
    NoBlock,
    NoChange,
    NoName,
    NoPiece,
    NoRoom,
    NoRow,
    NotSound,
    Twice,
)

REFUSALS = (NoBlock, NoChange, NoRoom, NoName, Twice, NoPiece, NotSound, NoRow)


class RefusalsTest(unittest.TestCase):
    def test_hold_error_stands_under_value_error(self):
        self.assertTrue(issubclass(HoldError, ValueError))
        self.assertIsNot(HoldError, ValueError)

    def test_each_stands_under_hold_error(self):
        for refusal in REFUSALS:
            with self.subTest(refusal=refusal.__name__):
                self.assertTrue(issubclass(refusal, HoldError))
                self.assertTrue(issubclass(refusal, ValueError))
                self.assertIsNot(refusal, HoldError)

    def test_none_stands_under_another(self):
        for refusal in REFUSALS:
            others = [other for other in REFUSALS if other is not refusal]
            self.assertEqual(len(others), 7)
            for other in others:
                with self.subTest(refusal=refusal.__name__, other=other.__name__):
                    self.assertFalse(issubclass(refusal, other))

    def test_each_bears_its_name_and_is_raised_and_taken(self):
        names = [refusal.__name__ for refusal in REFUSALS]
        self.assertEqual(
            names,
            ["NoBlock", "NoChange", "NoRoom", "NoName", "Twice", "NoPiece", "NotSound", "NoRow"],
        )
        for refusal in REFUSALS:
            with self.subTest(refusal=refusal.__name__), self.assertRaises(HoldError):
                raise refusal("some words")


if __name__ == "__main__":
    unittest.main()
