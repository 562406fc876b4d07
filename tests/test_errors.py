"""The errors: their classes and their fields."""

import layerseen.errors as errors
from tests.support import LayerCase, same, values

FIELDS = {
    "BadName": ["value"], "BadWord": ["value"], "BadNumber": ["value"], "BadDeed": ["at"], "BadProgram": ["part"],
    "BadHandler": ["at"], "BadStack": ["part"], "BadWish": ["part"], "BadTalk": ["part"], "BadSample": ["at"],
    "BadBook": ["part"], "BadText": ["line", "word"], "BadLine": ["word"], "NoName": ["name"], "NoPlace": ["at"],
    "Taken": ["name"], "Unfit": ["name"], "Unlike": ["part"], "TooMany": ["what", "most"], "NoChange": [],
}


class ErrorsTest(LayerCase):
    def test_each_class_stands_directly_below_the_base(self):
        self.assertEqual(errors.LayerError.__bases__, (ValueError,))
        for name in FIELDS:
            self.assertEqual(getattr(errors, name).__bases__, (errors.LayerError,))
            self.assertEqual(getattr(errors, name).__module__, "layerseen.errors")

    def test_there_are_no_other_classes(self):
        found = [name for name, value in vars(errors).items() if isinstance(value, type)]
        self.assertEqual(sorted(found), sorted([*FIELDS, "LayerError"]))

    def test_fields_by_position_and_by_name(self):
        for name, fields in FIELDS.items():
            made = getattr(errors, name)
            for value in values():
                parts = [value] * len(fields)
                for error in [made(*parts), made(**dict(zip(fields, parts)))]:
                    self.assertEqual(list(vars(error)), fields)
                    for field in fields:
                        self.assertTrue(same(getattr(error, field), value), f"{name} {value!r}")

    def test_two_fields_are_not_mixed_up(self):
        for made, fields in [(errors.BadText, ("line", "word")), (errors.TooMany, ("what", "most"))]:
            for error in [made("one", 2), made(**{fields[1]: 2, fields[0]: "one"}), made("one", **{fields[1]: 2})]:
                self.assertEqual([getattr(error, field) for field in fields], ["one", 2])

    def test_what_is_done_to_an_argument_afterwards_changes_nothing(self):
        for name, fields in FIELDS.items():
            inner = [1]
            row = [inner, {"x": inner}, (inner,)]
            error = getattr(errors, name)(*[row] * len(fields))
            inner.append(2)
            row[1]["y"] = 3
            row.append(4)
            for field in fields:
                self.same(getattr(error, field), [[1], {"x": [1]}, ([1],)])

    def test_they_are_caught_as_value_errors(self):
        for name, fields in FIELDS.items():
            with self.assertRaises(ValueError):
                raise getattr(errors, name)(*fields)
