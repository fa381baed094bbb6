"""The error classes of the interface."""

import unittest

from blindslots import errors
from tests.checks import Checks

FIELDS = {
    "NoJobs": "place", "NoRule": "place", "NoLengths": "place", "NoLog": "place",
    "NoMarks": "place", "NoNamed": "place", "NoOrder": "place",
    "NoText": "row", "NoNumber": "number", "NoName": "name",
}
WITHOUT_FIELD = ("NoUndo", "NoLine")
NAMES = (*FIELDS, *WITHOUT_FIELD)


class ErrorTest(Checks):

    def test_base_class(self):
        self.assertTrue(issubclass(errors.SlotError, ValueError))
        self.assertEqual(errors.SlotError.__module__, "blindslots.errors")

    def test_each_class_is_a_slot_error_and_no_other_one(self):
        for name in NAMES:
            found = getattr(errors, name)
            self.assertEqual(found.__name__, name)
            self.assertEqual(found.__module__, "blindslots.errors")
            self.assertTrue(issubclass(found, errors.SlotError))
            self.assertFalse(issubclass(errors.SlotError, found))
            above = [other for other in NAMES if issubclass(found, getattr(errors, other))]
            self.assertEqual(above, [name])

    def test_field_keeps_what_the_error_is_made_with(self):
        for name, field in FIELDS.items():
            for value in (0, 3, 10 ** 30):
                self.check_same(getattr(getattr(errors, name)(value), field), value)
                error = getattr(errors, name)(**{field: value})
                self.check_same(getattr(error, field), value)

    def test_name_and_number_may_be_of_any_kind(self):
        for value in (None, True, -1, "", "abc", ("a", 1), ["a", [None]]):
            self.check_same(errors.NoName(value).name, value)
            self.check_same(errors.NoNumber(value).number, value)

    def test_each_error_is_raised_and_caught_as_slot_error(self):
        for name in FIELDS:
            with self.assertRaises(errors.SlotError) as caught:
                raise getattr(errors, name)(2)
            self.assertIs(type(caught.exception), getattr(errors, name))
        for name in WITHOUT_FIELD:
            with self.assertRaises(errors.SlotError) as caught:
                raise getattr(errors, name)()
            self.assertIs(type(caught.exception), getattr(errors, name))


if __name__ == "__main__":
    unittest.main()
