"""Point 5: the refusals, their places and their fields."""

import unittest

from things import FAR, no_numbers, no_texts
from weirwatch import errors
from weirwatch.errors import WeirError

FIELDS = {
    "NoName": ("thing",),
    "NoGate": ("thing",),
    "NoBasin": ("thing",),
    "NoTown": ("thing",),
    "NoCloud": ("thing",),
    "NoRiver": ("thing",),
    "NoText": ("line", "place"),
    "TooMany": ("count",),
    "NoStanding": ("thing",),
    "NoChoice": ("thing",),
    "NoRain": ("thing",),
    "NoStuck": ("thing",),
    "NoNumber": ("thing",),
    "Lost": ("turns",),
    "NotServed": ("found",),
    "NoPromise": ("basin",),
    "Broken": ("basins",),
    "NoLine": ("place",),
}


def class_of(name):
    return getattr(errors, name)


def value_rows(many):
    """Rows of so many unlike things each, from all kinds."""
    things = no_numbers() + no_texts() + [FAR, -FAR, "a b"]
    return [[things[(k + j) % len(things)] for j in range(many)] for k in range(len(things))]


class Places(unittest.TestCase):
    def test_there_are_eighteen(self):
        self.assertEqual(len(FIELDS), 18)

    def test_weir_error_stands_under_value_error(self):
        self.assertEqual(WeirError.__bases__, (ValueError,))

    def test_each_stands_straight_under_weir_error(self):
        for name in FIELDS:
            with self.subTest(name):
                self.assertEqual(class_of(name).__name__, name)
                self.assertEqual(class_of(name).__bases__, (WeirError,))

    def test_each_is_none_of_the_others(self):
        for name, fields in FIELDS.items():
            error = class_of(name)(*fields)
            self.assertIsInstance(error, WeirError)
            self.assertIsInstance(error, ValueError)
            for other in FIELDS:
                with self.subTest(name=name, other=other):
                    self.assertEqual(isinstance(error, class_of(other)), name == other)


class Fields(unittest.TestCase):
    def test_fields_are_the_very_things(self):
        for name, fields in FIELDS.items():
            for values in value_rows(len(fields)):
                with self.subTest(name=name, values=values):
                    error = class_of(name)(*values)
                    for field, value in zip(fields, values):
                        self.assertIs(getattr(error, field), value)

    def test_fields_go_by_their_names(self):
        for name, fields in FIELDS.items():
            with self.subTest(name):
                error = class_of(name)(**{field: [field] for field in fields})
                self.assertEqual(vars(error), {field: [field] for field in fields})

    def test_each_is_raised_and_taken_as_any_refusal(self):
        for name, fields in FIELDS.items():
            with self.subTest(name):
                with self.assertRaises(WeirError) as caught:
                    raise class_of(name)(*fields)
                for field in fields:
                    self.assertEqual(getattr(caught.exception, field), field)

    def test_the_number_of_values_is_as_told(self):
        for name, fields in FIELDS.items():
            for many in (len(fields) - 1, len(fields) + 1):
                with self.subTest(name=name, many=many), self.assertRaises(TypeError):
                    class_of(name)(*range(many))

    def test_two_errors_have_nothing_in_common(self):
        one = errors.NoText(1, 2)
        other = errors.NoText(3, 4)
        self.assertEqual((one.line, one.place, other.line, other.place), (1, 2, 3, 4))


if __name__ == "__main__":
    unittest.main()
