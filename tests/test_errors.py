"""Point 3, and the line errors of the interface."""

import inspect
import unittest

from slabpins import errors

FIELDS = {
    "NoSlab": "index",
    "NoClass": "number",
    "NoTable": "index",
    "NoSteps": "index",
    "NoCertificate": "index",
    "NoPins": "pins",
    "Stuck": "numbers",
    "NoPages": "pages",
    "NoRows": "index",
    "TooMany": "most",
}


class Errors(unittest.TestCase):
    def test_the_base_derives_directly_from_value_error(self):
        self.assertEqual(errors.SlabError.__bases__, (ValueError,))

    def test_every_class_derives_directly_from_the_base(self):
        for name in FIELDS:
            self.assertEqual(getattr(errors, name).__bases__, (errors.SlabError,), name)

    def test_there_are_no_other_classes(self):
        found = [name for name, value in vars(errors).items() if inspect.isclass(value)]
        self.assertEqual(sorted(found), sorted([*FIELDS, "SlabError"]))

    def test_each_class_is_defined_in_this_module(self):
        for name in [*FIELDS, "SlabError"]:
            self.assertEqual(getattr(errors, name).__module__, "slabpins.errors")

    def test_fields_are_kept_as_they_are(self):
        values = [0, -1, 10 ** 30, True, None, "text", b"", (), (1, [2]), [], [[1], {}], {"a": []}, 0.5, object()]
        for name, field in FIELDS.items():
            for value in values:
                for error in (getattr(errors, name)(value), getattr(errors, name)(**{field: value})):
                    self.assertIs(getattr(error, field), value)
                    self.assertEqual(list(vars(error)), [field])

    def test_a_list_is_not_copied_or_changed(self):
        for name, field in FIELDS.items():
            value = [3, 1, 2]
            error = getattr(errors, name)(value)
            self.assertEqual(getattr(error, field), [3, 1, 2])
            self.assertIs(getattr(error, field), value)

    def test_an_error_takes_one_field(self):
        for name in FIELDS:
            with self.assertRaises(TypeError):
                getattr(errors, name)()
            with self.assertRaises(TypeError):
                getattr(errors, name)(1, 2)

    def test_caught_as_the_base_and_as_value_error(self):
        for name in FIELDS:
            for base in (errors.SlabError, ValueError):
                with self.assertRaises(base):
                    raise getattr(errors, name)(0)
