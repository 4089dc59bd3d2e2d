"""[c4]: the errors and their fields."""

import unittest

from homingtrue import errors
from homingtrue.errors import (
    BadClock, BadEvent, BadSlip, ClubFault, InvalidBytes, NoSuchName,
    NoSuchRing, OtherClub, RaceError, TooMany, WrongPaper)

FIELDS = [
    (ClubFault, ("line", "place", "word"), (3, 1, "number")),
    (BadSlip, ("word",), ("reading",)),
    (BadClock, ("word",), ("shown",)),
    (BadEvent, ("word",), ("stake",)),
    (NoSuchName, ("name",), ("hill",)),
    (NoSuchRing, ("ring",), (77,)),
    (OtherClub, (), ()),
    (WrongPaper, ("at",), (2,)),
    (InvalidBytes, ("at",), (0,)),
    (TooMany, ("limit",), (80,)),
]


class ErrorClasses(unittest.TestCase):
    def test_the_base_class_stands_directly_below_value_error(self):
        self.assertEqual(RaceError.__bases__, (ValueError,))

    def test_each_class_stands_directly_below_the_base_class(self):
        for kind, _, _ in FIELDS:
            with self.subTest(kind=kind.__name__):
                self.assertEqual(kind.__bases__, (RaceError,))

    def test_the_ten_classes_differ(self):
        self.assertEqual(len({kind for kind, _, _ in FIELDS}), 10)

    def test_each_class_has_its_own_name(self):
        for kind, _, _ in FIELDS:
            with self.subTest(kind=kind.__name__):
                self.assertIs(getattr(errors, kind.__name__), kind)

    def test_each_class_is_defined_in_its_file(self):
        for kind in [RaceError] + [kind for kind, _, _ in FIELDS]:
            with self.subTest(kind=kind.__name__):
                self.assertEqual(kind.__module__, "homingtrue.errors")

    def test_the_base_class_is_made_without_arguments(self):
        self.assertIsInstance(RaceError(), ValueError)


class ErrorFields(unittest.TestCase):
    def test_fields_are_set_from_the_arguments_in_their_order(self):
        for kind, names, values in FIELDS:
            error = kind(*values)
            for name, value in zip(names, values):
                with self.subTest(kind=kind.__name__, name=name):
                    self.assertEqual(getattr(error, name), value)
                    self.assertIs(type(getattr(error, name)), type(value))

    def test_arguments_have_the_names_of_the_fields(self):
        for kind, names, values in FIELDS:
            error = kind(**dict(zip(names, values)))
            for name, value in zip(names, values):
                with self.subTest(kind=kind.__name__, name=name):
                    self.assertEqual(getattr(error, name), value)

    def test_the_fields_of_two_errors_are_apart(self):
        one = ClubFault(0, 1, "name")
        other = ClubFault(5, 6, "many")
        self.assertEqual((one.line, one.place, one.word), (0, 1, "name"))
        self.assertEqual((other.line, other.place, other.word), (5, 6, "many"))

    def test_each_is_caught_as_itself_as_race_error_and_as_value_error(self):
        for kind, _, values in FIELDS:
            for caught in (kind, RaceError, ValueError):
                with self.subTest(kind=kind.__name__, caught=caught.__name__):
                    with self.assertRaises(caught) as held:
                        raise kind(*values)
                    self.assertIs(type(held.exception), kind)

    def test_none_is_caught_as_another_one(self):
        for kind, _, values in FIELDS:
            for other, _, _ in FIELDS:
                if other is not kind:
                    with self.subTest(kind=kind.__name__, other=other.__name__):
                        self.assertNotIsInstance(kind(*values), other)


if __name__ == "__main__":
    unittest.main()
