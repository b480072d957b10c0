import unittest

import beatlamps.errors as errors
from tests.helper import STRANGE

NAMES = """BadPolynomial, Nought, BadBeats, TooLong, NoMeasure, BadSize, BadRule, NotEven, BadKind, BadRow, OtherSize,
Garden, TooMany, Loses, BadNumber, BadSides, BadMiddle, BadFloor, Barred, NotPlain, TooHigh, NotQuiet, NoSpread,
BadPicture, BadPlace, TooWide, Endless, BadLooks, BadLook, Held, Full, NoLook, Quarrel, BadOffers, BadPlaces,
BadPresses, NothingToUndo, NothingToRedo, NoTrial, BadJournal, BadLine""".replace("\n", " ").replace(",", "").split()


class Errors(unittest.TestCase):
    def test_all_derive_directly(self):
        self.assertEqual(errors.LampError.__bases__, (ValueError,))
        self.assertEqual(len(NAMES), 41)
        for name in NAMES:
            self.assertEqual(getattr(errors, name).__bases__, (errors.LampError,), name)

    def test_no_other_errors(self):
        found = [name for name, thing in vars(errors).items() if isinstance(thing, type)]
        self.assertEqual(sorted(found), sorted(NAMES + ["LampError"]))

    def test_they_keep_any_value(self):
        for name in NAMES + ["LampError"]:
            for value in STRANGE + [0, 24, (0, 1), "110"]:
                error = getattr(errors, name)(value)
                self.assertIs(error.value, value)
                self.assertIsInstance(error, ValueError)

    def test_they_take_just_one_argument(self):
        for name in NAMES + ["LampError"]:
            with self.assertRaises(TypeError):
                getattr(errors, name)()
            with self.assertRaises(TypeError):
                getattr(errors, name)(1, 2)

    def test_they_are_raised_and_caught(self):
        for name in NAMES:
            with self.assertRaises(errors.LampError) as caught:
                raise getattr(errors, name)([1])
            self.assertEqual(caught.exception.value, [1])


if __name__ == "__main__":
    unittest.main()
