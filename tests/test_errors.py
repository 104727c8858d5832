"""Tests of zoneward.errors: the base class, its place, and the ten classes derived from it."""

import inspect
import unittest

from zoneward import errors

NAMES = ["Truncated", "ReservedValue", "InvalidForm", "InvalidPointer", "InvalidName",
         "InvalidText", "InvalidLine", "OutOfRange", "InvalidZone", "InvalidDifference"]


class ErrorsTest(unittest.TestCase):
    def test_the_file_defines_the_base_class_and_ten_others(self):
        defined = [name for name, value in vars(errors).items()
                   if inspect.isclass(value) and value.__module__ == "zoneward.errors"]
        self.assertEqual(sorted(defined), sorted(NAMES + ["ZonewardError"]))

    def test_the_base_class_is_a_value_error(self):
        self.assertTrue(issubclass(errors.ZonewardError, ValueError))

    def test_each_class_is_derived_from_the_base_class(self):
        for name in NAMES:
            with self.subTest(name):
                self.assertTrue(issubclass(getattr(errors, name), errors.ZonewardError))

    def test_no_class_is_derived_from_another_one(self):
        classes = [getattr(errors, name) for name in NAMES]
        for one in classes:
            self.assertFalse(issubclass(errors.ZonewardError, one))
            for other in classes:
                with self.subTest(one=one, other=other):
                    self.assertEqual(issubclass(one, other), one == other)

    def test_each_object_has_its_place(self):
        for name in ["ZonewardError"] + NAMES:
            for place in (0, 1, 8, 16384, 10 ** 12):
                with self.subTest(name, place=place):
                    self.assertEqual(getattr(errors, name)(place).place, place)
                    self.assertEqual(getattr(errors, name)(place=place).place, place)

    def test_objects_do_not_share_a_place(self):
        first = errors.Truncated(3)
        second = errors.Truncated(4)
        self.assertEqual((first.place, second.place), (3, 4))

    def test_a_place_must_be_given(self):
        for name in ["ZonewardError"] + NAMES:
            with self.subTest(name), self.assertRaises(TypeError):
                getattr(errors, name)()

    def test_a_raised_error_is_caught_by_its_class_and_keeps_its_place(self):
        for name in NAMES:
            for caught in (getattr(errors, name), errors.ZonewardError, ValueError):
                with self.subTest(name, caught=caught):
                    with self.assertRaises(caught) as context:
                        raise getattr(errors, name)(5)
                    self.assertEqual(context.exception.place, 5)
