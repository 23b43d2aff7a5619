"""The errors: what they derive from, and what they keep (section 2)."""

import unittest

from tests.samples import odd_values
from wheneverclear import errors
from wheneverclear.errors import NightError

NAMES = (
    "BadBook NoKind NoHour Last BadName There BadWorth BadHours TooMany BadWeather BadWishes BadLooks NotUp "
    "BadKinds BadClear BadChooser BadNumber TooLong BadPlan Same Over NothingToUndo BadRest NothingToRedo "
    "NoTrial BadJournal BadWords"
).split(" ")


class ErrorsTest(unittest.TestCase):
    def test_night_error_derives_from_value_error(self):
        self.assertEqual(NightError.__bases__, (ValueError,))

    def test_all_others_derive_directly_from_night_error(self):
        for name in NAMES:
            with self.subTest(name=name):
                self.assertEqual(getattr(errors, name).__bases__, (NightError,))

    def test_no_two_are_the_same_class(self):
        self.assertEqual(len({getattr(errors, name) for name in NAMES}), 27)

    def test_each_keeps_any_value(self):
        for name in ["NightError"] + NAMES:
            for value in odd_values():
                with self.subTest(name=name, value=value):
                    self.assertIs(getattr(errors, name)(value).value, value)

    def test_each_is_raised_and_caught(self):
        for name in ["NightError"] + NAMES:
            value = (name, [])
            for caught in (getattr(errors, name), NightError, ValueError):
                with self.assertRaises(caught) as told:
                    raise getattr(errors, name)(value)
                self.assertIs(told.exception.value, value)

    def test_one_argument_is_needed(self):
        for name in ["NightError"] + NAMES:
            with self.assertRaises(TypeError):
                getattr(errors, name)()
            with self.assertRaises(TypeError):
                getattr(errors, name)(1, 2)


if __name__ == "__main__":
    unittest.main()
