"""The errors: their bases, fields and names of arguments."""

import unittest

from partstold import errors

FIELDS = {
    "BadKind": "place", "BadBook": "place", "BadText": "line", "UnknownKind": "kind", "BadBranch": "path",
    "BadState": "state", "BadName": "name", "Taken": "name", "NoTask": "name", "BadPart": "kind",
    "HasParts": "name", "NoParts": "name", "NoMark": "name", "TopTask": "name", "LastPart": "name",
    "Below": "name",
}

ANY_VALUES = ["a", "", 3, -1, True, None, (0, 1), [1, [2]], {"a": 1}, b"x", object(), 10 ** 5000]


class Errors(unittest.TestCase):
    def test_parts_error_derives_from_value_error_directly(self):
        self.assertEqual(errors.PartsError.__bases__, (ValueError,))
        self.assertIsInstance(errors.PartsError(), ValueError)
        self.assertIsInstance(errors.PartsError("what"), ValueError)

    def test_each_error_derives_from_parts_error_directly(self):
        for name in [*FIELDS, "NoDeed"]:
            with self.subTest(name):
                self.assertEqual(getattr(errors, name).__bases__, (errors.PartsError,))
                self.assertEqual(getattr(errors, name).__module__, "partstold.errors")

    def test_each_error_has_its_field_whatever_the_value(self):
        for name, field in FIELDS.items():
            for value in ANY_VALUES:
                with self.subTest(name):
                    error = getattr(errors, name)(value)
                    self.assertIs(getattr(error, field), value)
                    self.assertEqual(list(vars(error)), [field])

    def test_each_field_may_be_passed_by_its_name(self):
        for name, field in FIELDS.items():
            for value in ANY_VALUES:
                with self.subTest(name):
                    self.assertIs(getattr(getattr(errors, name)(**{field: value}), field), value)

    def test_no_deed_has_no_field(self):
        self.assertEqual(vars(errors.NoDeed()), {})

    def test_each_error_is_raised_and_caught_by_its_name(self):
        for name in FIELDS:
            with self.subTest(name):
                with self.assertRaises(getattr(errors, name)):
                    raise getattr(errors, name)("a")
        with self.assertRaises(errors.NoDeed):
            raise errors.NoDeed()

    def test_a_field_is_needed(self):
        for name in FIELDS:
            with self.subTest(name):
                self.assertRaises(TypeError, getattr(errors, name))


if __name__ == "__main__":
    unittest.main()
