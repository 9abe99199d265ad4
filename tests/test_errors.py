"""floorpowers/errors.py: classes, fields, who stands under whom."""

import unittest

from floorpowers import errors
from helpers import strange_values

FIELDS = {
    "BadHouse": ("place",), "BadLot": ("number",), "BadText": ("number",), "BadGoal": ("number",),
    "BadMotion": ("place",), "BadStand": ("place",), "BadAct": ("place",), "BadRow": ("place",),
    "BadMember": ("value",), "BadNumber": ("value",), "BadShare": ("value",), "BadFamily": ("place",),
    "BadPaper": ("word",), "BadMinutes": ("place",), "BadWords": ("line", "word"), "BadName": ("name",),
    "NothingBack": (), "TooGreat": ("most",),
}


class ErrorsTest(unittest.TestCase):

    def test_all_classes_are_there_and_no_others(self):
        found = {name for name, value in vars(errors).items() if isinstance(value, type)}
        self.assertEqual(found, set(FIELDS) | {"FloorError"})

    def test_who_stands_under_whom(self):
        self.assertEqual(errors.FloorError.__bases__, (ValueError,))
        for name in FIELDS:
            self.assertEqual(getattr(errors, name).__bases__, (errors.FloorError,), name)

    def test_floor_error_is_made_of_any_things(self):
        for things in [(), (1,), ("a", None), (object(), [], {}), tuple(strange_values())]:
            error = errors.FloorError(*things)
            self.assertIsInstance(error, ValueError)
            self.assertEqual(len(error.args), len(things))

    def test_fields_by_position_are_the_very_things(self):
        for name, fields in FIELDS.items():
            for value in strange_values() + [(1, [2])]:
                values = [value, [value]][:len(fields)]
                error = getattr(errors, name)(*values)
                self.check_fields(error, fields, values)

    def test_fields_by_name_are_the_very_things(self):
        for name, fields in FIELDS.items():
            for value in strange_values() + [(1, [2])]:
                values = [value, [value]][:len(fields)]
                named = dict(reversed(list(zip(fields, values))))
                self.check_fields(getattr(errors, name)(**named), fields, values)

    def check_fields(self, error, fields, values):
        self.assertEqual(sorted(vars(error)), sorted(fields))
        for field, value in zip(fields, values):
            self.assertIs(getattr(error, field), value)

    def test_each_is_caught_as_itself_as_floor_error_and_as_value_error(self):
        for name, fields in FIELDS.items():
            for caught in (getattr(errors, name), errors.FloorError, ValueError):
                with self.assertRaises(caught):
                    raise getattr(errors, name)(*[1, 2][:len(fields)])

    def test_each_needs_its_fields(self):
        for name, fields in FIELDS.items():
            if fields:
                with self.assertRaises(TypeError):
                    getattr(errors, name)()


if __name__ == "__main__":
    unittest.main()
