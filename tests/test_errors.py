"""Point 13: the errors."""

import unittest

from planetlocks import errors

PLAIN = (
    "InvalidShafts InvalidBox InvalidWork InvalidIndex InvalidDifferences InvalidLocks InvalidLock InvalidGears "
    "InvalidShaft InvalidOrder InvalidRatios InvalidFraction InvalidSpeeds InvalidLooks InvalidForm InvalidNumber "
    "Unbalanced NotDriven NotNeighbours SharedUnknown NotTelling NotEngaged NothingToUndo InvalidCommand NotReady"
).split()
KEEPING = {"Contradiction": "at", "Refused": "reason", "InvalidWords": "place"}


class ErrorsTest(unittest.TestCase):
    def test_base_is_a_value_error(self):
        self.assertEqual(errors.BoxError.__bases__, (ValueError,))
        self.assertIn("words", str(errors.BoxError("words")))

    def test_each_stands_directly_under_the_base(self):
        for name in PLAIN + list(KEEPING):
            with self.subTest(name=name):
                self.assertEqual(getattr(errors, name).__bases__, (errors.BoxError,))
                self.assertEqual(getattr(errors, name).__module__, "planetlocks.errors")

    def test_plain_ones_are_made_with_a_string(self):
        for name in PLAIN:
            with self.subTest(name=name):
                self.assertEqual(str(getattr(errors, name)("some words")), "some words")
                with self.assertRaises(errors.BoxError):
                    raise getattr(errors, name)("some words")

    def test_others_keep_their_argument(self):
        for name, field in KEEPING.items():
            for value in (0, 7, "held"):
                with self.subTest(name=name, value=value):
                    self.assertEqual(getattr(getattr(errors, name)(value), field), value)
                    self.assertEqual(getattr(getattr(errors, name)(**{field: value}), field), value)

    def test_others_are_raised_and_caught(self):
        with self.assertRaises(errors.Contradiction) as caught:
            raise errors.Contradiction(at=3)
        self.assertEqual(caught.exception.at, 3)
        with self.assertRaises(errors.Refused) as caught:
            raise errors.Refused("over")
        self.assertEqual(caught.exception.reason, "over")
        with self.assertRaises(errors.InvalidWords) as caught:
            raise errors.InvalidWords(0)
        self.assertEqual(caught.exception.place, 0)
