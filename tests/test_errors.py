"""The exceptions: point [2]."""

import unittest

from laminae import errors

NAMES = [
    "NotValid", "PowerOff", "NoProcess", "BadHandle", "NoVolume", "ReadOnly", "BadName", "Missing", "WrongKind",
    "Exists", "LoopFound", "CrossVolume", "Busy", "NotEmpty", "TooMany", "TooLong", "OverQuota", "NoSpace", "BadImage",
]


class ErrorsTest(unittest.TestCase):

    def test_the_base_class_is_directly_below_value_error(self):
        self.assertEqual(errors.LaminaError.__bases__, (ValueError,))

    def test_each_class_is_directly_below_the_base_class(self):
        for name in NAMES:
            self.assertEqual(getattr(errors, name).__bases__, (errors.LaminaError,), name)

    def test_each_class_is_made_without_an_argument(self):
        for name in NAMES:
            made = getattr(errors, name)()
            self.assertEqual(type(made).__name__, name)
            with self.assertRaises(errors.LaminaError):
                raise made

    def test_there_are_no_other_classes(self):
        found = [name for name, value in vars(errors).items() if isinstance(value, type)]
        self.assertEqual(sorted(found), sorted(NAMES + ["LaminaError"]))


if __name__ == "__main__":
    unittest.main()
