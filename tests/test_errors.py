"""The errors of the interface."""

import unittest

from hornmill import errors

FIELDS = {
    "BadTerm": ["term"], "BadPairs": ["pairs"], "BadBindings": ["bindings"], "BadAddress": ["address"],
    "BadCell": ["cell"], "BadValue": ["why"], "BadGoal": ["goal"], "NoClause": ["why"], "NoFlat": ["why"],
    "NoCode": ["why"], "NoKey": ["key"], "NoText": ["why"], "NoTable": ["why"], "NoOperator": ["why"],
    "BadClause": ["index", "why"],
}


class Errors(unittest.TestCase):
    def test_the_root_is_a_value_error(self):
        self.assertEqual(errors.HornError.__bases__, (ValueError,))

    def test_all_others_are_direct_subclasses(self):
        for name in FIELDS:
            with self.subTest(name):
                self.assertEqual(getattr(errors, name).__bases__, (errors.HornError,))

    def test_there_are_no_others(self):
        found = {one.__name__ for one in errors.HornError.__subclasses__() if one.__module__ == "hornmill.errors"}
        self.assertEqual(found, set(FIELDS))

    def test_fields_hold_what_was_passed_by_position(self):
        for name, fields in FIELDS.items():
            for value in ("a", -1, None, [], {}, ("f", [1]), object()):
                values = [value] + [["other"]] * (len(fields) - 1)
                error = getattr(errors, name)(*values)
                for field, passed in zip(fields, values):
                    with self.subTest(name, field=field):
                        self.assertIs(getattr(error, field), passed)

    def test_the_number_of_fields_is_fixed(self):
        for name, fields in FIELDS.items():
            with self.subTest(name):
                self.assertRaises(TypeError, getattr(errors, name), *["a"] * (len(fields) - 1))
                self.assertRaises(TypeError, getattr(errors, name), *["a"] * (len(fields) + 1))

    def test_each_is_caught_as_a_horn_error(self):
        for name, fields in FIELDS.items():
            with self.subTest(name), self.assertRaises(errors.HornError):
                raise getattr(errors, name)(*["a"] * len(fields))

    def test_each_has_a_message(self):
        for name, fields in FIELDS.items():
            with self.subTest(name):
                self.assertNotEqual(str(getattr(errors, name)(*["a"] * len(fields))), "")


if __name__ == "__main__":
    unittest.main()
