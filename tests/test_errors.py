"""Promises 2 and 39: the error classes."""

import inspect
import unittest

from areawalks import errors
from tests.samples import HUGE, values_of_all_kinds

FIELDS = {
    "BadNumber": ("value",), "BadPlace": ("value",), "BadWord": ("value",), "TooMany": ("most",),
    "TooFar": ("number",), "NotWithin": (), "OneSided": ("form",), "Still": (), "NoDirection": (),
    "Uneven": ("first", "second"), "EndsDiffer": ("number",), "NotOnto": ("number",), "NotClosed": (),
    "BadText": ("number",), "NoWalk": ("name",), "BadName": ("value",), "Taken": ("name",),
    "NoPromise": ("name",), "Barred": ("words",), "NothingToUndo": ()}


class ErrorsTest(unittest.TestCase):
    def test_walk_error_is_a_value_error(self):
        self.assertEqual(errors.WalkError.__bases__, (ValueError,))

    def test_all_stand_directly_below_walk_error(self):
        for name in FIELDS:
            self.assertEqual(getattr(errors, name).__bases__, (errors.WalkError,), name)

    def test_there_are_no_others(self):
        found = [name for name, value in vars(errors).items() if inspect.isclass(value)]
        self.assertEqual(sorted(found), sorted([*FIELDS, "WalkError"]))

    def test_fields_by_position(self):
        for name, fields in FIELDS.items():
            for value in values_of_all_kinds():
                given = [value, [name]][:len(fields)]
                error = getattr(errors, name)(*given)
                self.assertEqual(sorted(vars(error)), sorted(fields), name)
                for field, part in zip(fields, given):
                    self.assertIs(getattr(error, field), part, name)

    def test_fields_by_name(self):
        for name, fields in FIELDS.items():
            for value in values_of_all_kinds():
                given = dict(zip(fields, [value, [name]]))
                error = getattr(errors, name)(**given)
                self.assertEqual(sorted(vars(error)), sorted(fields), name)
                for field, part in given.items():
                    self.assertIs(getattr(error, field), part, name)

    def test_wrong_numbers_of_fields(self):
        for name, fields in FIELDS.items():
            if fields:
                self.assertRaises(TypeError, getattr(errors, name))
                self.assertRaises(TypeError, getattr(errors, name), *range(len(fields) + 1))

    def test_they_are_raised_and_caught(self):
        for name, fields in FIELDS.items():
            with self.assertRaises(errors.WalkError):
                raise getattr(errors, name)(*[HUGE, -HUGE][:len(fields)])


if __name__ == "__main__":
    unittest.main()
