"""The errors: what each stands under, and its field."""

import unittest

from casknotes import errors
from casknotes.weights import Weight
from things import OTHER_KINDS

# The one class that each stands just under.
ABOVE = {
    "CaskError": ValueError,
    "Wrong": "CaskError",
    "NoName": "Wrong",
    "NoGrains": "Wrong",
    "NoDay": "Wrong",
    "NoWeight": "Wrong",
    "NoDeed": "Wrong",
    "NoRow": "Wrong",
    "NoText": "Wrong",
    "Unknown": "CaskError",
    "NoMark": "Unknown",
    "NoNote": "Unknown",
    "LostNote": "Unknown",
    "Unborne": "CaskError",
    "NotBorne": "Unborne",
    "Short": "Unborne",
    "Twice": "CaskError",
    "TooLate": "CaskError",
    "NoSum": "CaskError",
    "Full": "CaskError",
    "NotAlike": "CaskError",
    "NoWhole": ZeroDivisionError,
    "NoWare": KeyError,
    "NoPlace": IndexError,
}

FIELDS = {
    "NoText": "row",
    "Unknown": "what", "NoMark": "what", "NoNote": "what", "LostNote": "what",
    "Unborne": "lacks", "NotBorne": "lacks", "Short": "lacks",
    "Twice": "what",
    "TooLate": "day",
    "NoWare": "ware",
    "NoPlace": "number",
}

OF_PYTHON = [ValueError, LookupError, KeyError, IndexError, ArithmeticError, ZeroDivisionError, TypeError,
             AttributeError, RuntimeError, StopIteration]


def class_of(name):
    return getattr(errors, name)


def all_above(name):
    """The classes told that an error stands under, itself too, up to Python's own."""
    found = []
    while isinstance(name, str):
        found.append(class_of(name))
        name = ABOVE[name]
    return found + [above for above in OF_PYTHON if issubclass(name, above)]


class TestClasses(unittest.TestCase):
    def test_each_is_just_under_the_class_told(self):
        for name, above in ABOVE.items():
            with self.subTest(name):
                if isinstance(above, str):
                    above = class_of(above)
                self.assertEqual(class_of(name).__bases__, (above,))

    def test_each_is_under_those_and_no_other(self):
        for name in ABOVE:
            under = all_above(name)
            for other in [class_of(other) for other in ABOVE] + OF_PYTHON:
                with self.subTest(name, other=other):
                    self.assertIs(issubclass(class_of(name), other), other in under)

    def test_each_is_defined_in_the_file_under_its_name(self):
        for name in ABOVE:
            with self.subTest(name):
                self.assertEqual(class_of(name).__module__, "casknotes.errors")
                self.assertEqual(class_of(name).__name__, name)
        self.assertEqual(len({class_of(name) for name in ABOVE}), len(ABOVE))

    def test_each_is_caught_by_the_classes_above_it(self):
        for name in ABOVE:
            for above in all_above(name):
                with self.subTest(name, above=above):
                    with self.assertRaises(above):
                        raise class_of(name)("told")


class TestFields(unittest.TestCase):
    def test_what_is_handed_in_by_its_place_is_the_field(self):
        for name, field in FIELDS.items():
            for thing in ["c1f", "ann", 7, Weight(7, 2)] + OTHER_KINDS:
                with self.subTest(name):
                    self.assertIs(getattr(class_of(name)(thing), field), thing)

    def test_what_is_handed_in_by_its_name_is_the_field(self):
        for name, field in FIELDS.items():
            for thing in ["c1f", "ann", 7, Weight(7, 2)] + OTHER_KINDS:
                with self.subTest(name):
                    error = class_of(name)(**{field: thing})
                    self.assertIs(getattr(error, field), thing)

    def test_just_the_row_may_be_left_out(self):
        row = errors.NoText().row
        self.assertIs(row.__class__, int)
        self.assertEqual(row, 0)
        for name in FIELDS:
            if name != "NoText":
                with self.subTest(name), self.assertRaises(TypeError):
                    class_of(name)()

    def test_the_field_comes_along_when_it_is_raised(self):
        for name, field in FIELDS.items():
            with self.subTest(name):
                with self.assertRaises(class_of(name)) as caught:
                    raise class_of(name)("told")
                self.assertEqual(getattr(caught.exception, field), "told")

    def test_each_has_a_field_of_its_own(self):
        for name, field in FIELDS.items():
            with self.subTest(name):
                one, other = class_of(name)(1), class_of(name)(2)
                self.assertEqual((getattr(one, field), getattr(other, field)), (1, 2))

    def test_none_has_the_field_of_another(self):
        for name in ABOVE:
            for field in sorted(set(FIELDS.values())):
                with self.subTest(name, field=field):
                    self.assertIs(hasattr(class_of(name)("told"), field), FIELDS.get(name) == field)

    def test_the_others_are_made_with_a_text(self):
        for name in ABOVE:
            if name not in FIELDS:
                with self.subTest(name):
                    self.assertEqual(str(class_of(name)("told")), "told")


if __name__ == "__main__":
    unittest.main()
