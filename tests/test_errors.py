"""The errors: section 17, and what section 2 says of them."""

import unittest

from earstogether import errors
from tests.support import Thing

NAMES = (
    "BadRow BadRows BadFraction BadNumber BadMoment BadEars BadWays BadMatrix BadPicture BadRecords BadArray BadName "
    "NoEar NoWay ByNothing TooWide Taken Full NothingToUndo NothingToRedo NoBlock BadJournal BadTask BadChoir "
    "BadWorths NotGhost BadLate BadLags NoArray BadNames BadStep BadColumn Unlike NotSquare BadPlace Told NoneReady "
    "NoStation"
).split()

VALUES = (
    None, True, 0, -7, 10 ** 5000, "", "a", "two\nlines", (), (1, (2,)), [1], {"a": [1]}, Thing(), ValueError("x"),
)


class ErrorsTest(unittest.TestCase):

    def test_all_names_of_the_interface_and_no_other(self):
        found = [name for name, thing in vars(errors).items() if isinstance(thing, type)]
        self.assertEqual(sorted(found), sorted(NAMES + ["EarError"]))

    def test_each_is_defined_in_this_file(self):
        for name in NAMES + ["EarError"]:
            self.assertEqual(getattr(errors, name).__module__, "earstogether.errors")

    def test_ear_error_is_directly_below_value_error(self):
        self.assertEqual(errors.EarError.__bases__, (ValueError,))

    def test_each_is_directly_below_ear_error(self):
        for name in NAMES:
            self.assertEqual(getattr(errors, name).__bases__, (errors.EarError,), name)

    def test_each_keeps_any_value(self):
        for name in NAMES + ["EarError"]:
            for value in VALUES:
                self.assertIs(getattr(errors, name)(value).value, value)

    def test_values_are_kept_apart(self):
        one, other = errors.BadRow(1), errors.BadRow(2)
        self.assertEqual((one.value, other.value), (1, 2))

    def test_each_is_caught_as_ear_error_and_value_error(self):
        for name in NAMES:
            for above in (errors.EarError, ValueError):
                with self.assertRaises(above) as caught:
                    raise getattr(errors, name)(name)
                self.assertEqual(caught.exception.value, name)

    def test_one_argument_only(self):
        for name in NAMES + ["EarError"]:
            self.assertRaises(TypeError, getattr(errors, name))
            self.assertRaises(TypeError, getattr(errors, name), 1, 2)


if __name__ == "__main__":
    unittest.main()
