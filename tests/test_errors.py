"""The errors of the interface."""

import unittest

from countalike import errors

NAMES = (
    "NoRows", "NoKey", "NoNumber", "NoText", "NoTable", "NoAtoms", "NoQuestion", "TooMuch", "TooOften", "NotMirrored",
    "NothingDone",
)


class Errors(unittest.TestCase):
    def test_base(self):
        self.assertEqual(errors.CountError.__bases__, (ValueError,))

    def test_direct_subclasses(self):
        for name in NAMES:
            error = getattr(errors, name)
            self.assertEqual(error.__bases__, (errors.CountError,), name)
            self.assertEqual(error.__name__, name)
            self.assertEqual(error.__module__, "countalike.errors")

    def test_all_different(self):
        self.assertEqual(len({getattr(errors, name) for name in NAMES}), 11)

    def test_raised_with_a_message(self):
        for name in NAMES:
            with self.assertRaises(errors.CountError) as caught:
                raise getattr(errors, name)("some words")
            self.assertEqual(str(caught.exception), "some words")


if __name__ == "__main__":
    unittest.main()
