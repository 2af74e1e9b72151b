"""Promise [20], and what [3] and [4] say of errors."""

import copy
import unittest

from packedseats import errors
from packedseats.errors import CouncilError
from tests.plain import check_examples, odd_values

FIELDS = {
    "Wrong": ["place"], "BadStep": ["at"], "TooMany": ["limit"], "NoDeed": [], "Told": ["source"],
    "NotTold": ["source"], "Taken": ["name"], "Unknown": ["name"], "Broken": ["at"], "Nothing": [], "NoText": [],
    "NoCommand": [],
}


def made(name, value):
    """Return an error of this name, made from the value if it has a field."""
    return getattr(errors, name)(*[value for _ in FIELDS[name]])


class ErrorsTest(unittest.TestCase):
    def test_examples(self):
        check_examples(self, """
>>> from packedseats.errors import TooMany
>>> TooMany(7).limit
7
""")

    def test_bases(self):
        self.assertEqual(CouncilError.__bases__, (ValueError,))
        for name in FIELDS:
            self.assertEqual(getattr(errors, name).__bases__, (CouncilError,), name)

    def test_names(self):
        for name in FIELDS:
            self.assertEqual(getattr(errors, name).__name__, name)
            self.assertEqual(getattr(errors, name).__module__, "packedseats.errors")

    def test_a_field_holds_the_very_object(self):
        values = odd_values() + [0, 7, -1, 10 ** 5000, "ann", [1, [2]], {"a": [1]}, (1, [2]), True, False, None]
        for name, fields in FIELDS.items():
            for value in values:
                error = made(name, value)
                self.assertEqual(list(vars(error)), fields)
                for field in fields:
                    self.assertIs(getattr(error, field), value)

    def test_a_field_can_be_passed_by_its_name(self):
        for name, fields in FIELDS.items():
            for field in fields:
                value = [1]
                error = getattr(errors, name)(**{field: value})
                self.assertIs(getattr(error, field), value)

    def test_a_passed_list_that_is_changed_later_stays_the_field(self):
        for name, fields in FIELDS.items():
            for field in fields:
                value = [1]
                error = made(name, value)
                value.append(2)
                self.assertIs(getattr(error, field), value)
                self.assertEqual(getattr(error, field), [1, 2])

    def test_the_passed_value_is_not_changed(self):
        for name in FIELDS:
            value = [1, {"a": [2]}]
            made(name, value)
            self.assertEqual(value, [1, {"a": [2]}])

    def test_a_field_is_needed(self):
        for name, fields in FIELDS.items():
            if fields:
                with self.assertRaises(TypeError):
                    getattr(errors, name)()

    def test_each_is_caught_by_its_base_classes(self):
        for name in FIELDS:
            for base in (getattr(errors, name), CouncilError, ValueError):
                with self.assertRaises(base) as caught:
                    raise made(name, 3)
                self.assertEqual(type(caught.exception).__name__, name)

    def test_none_is_an_instance_of_another_one(self):
        for name in FIELDS:
            for other in FIELDS:
                self.assertEqual(isinstance(made(name, 1), getattr(errors, other)), name == other)

    def test_council_error_is_made_as_value_error_is(self):
        for values in ((), ("no",), (1, [2], None), ({"a": 1}, True)):
            error = CouncilError(*values)
            self.assertEqual(error.args, ValueError(*values).args)
            self.assertEqual(str(error), str(ValueError(*values)))
            with self.assertRaises(ValueError):
                raise error
        self.assertNotIsInstance(CouncilError(), tuple(getattr(errors, name) for name in FIELDS))

    def test_errors_can_be_copied(self):
        for name in FIELDS:
            twin = copy.copy(made(name, [1]))
            self.assertEqual(type(twin).__name__, name)
            self.assertEqual(list(vars(twin).values()), [[1] for _ in FIELDS[name]])


if __name__ == "__main__":
    unittest.main()
