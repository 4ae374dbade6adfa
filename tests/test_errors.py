"""[3]: the refusals and the value that each keeps."""

import copy
import unittest

from flapwater import errors

NAMES = ["NoFloors", "NoWater", "NoFlap", "NoStep", "NoTable", "NoRows",
         "NoDrop", "NoTank", "NoRain", "NoOrder", "NoText"]
VALUES = [None, 0, -1, 7, 10 ** 5000, (0, 3), "1/0", ""]


class Refusals(unittest.TestCase):
    def test_every_class_of_the_interface_is_defined_in_the_file(self):
        found = [name for name, value in vars(errors).items()
                 if isinstance(value, type) and value.__module__ == "flapwater.errors"]
        self.assertEqual(sorted(found), sorted(NAMES + ["FlapError"]))

    def test_flap_error_stands_straight_under_value_error(self):
        self.assertEqual(errors.FlapError.__bases__, (ValueError,))

    def test_each_other_one_stands_straight_under_flap_error(self):
        for name in NAMES:
            with self.subTest(name):
                self.assertEqual(getattr(errors, name).__bases__, (errors.FlapError,))

    def test_value_by_place(self):
        for name in NAMES:
            for value in VALUES:
                with self.subTest(name):
                    self.assertEqual(getattr(errors, name)(value).what, value)

    def test_value_by_name(self):
        for name in NAMES:
            for value in VALUES:
                with self.subTest(name):
                    self.assertEqual(getattr(errors, name)(what=value).what, value)

    def test_not_without_a_value_nor_with_two(self):
        for name in NAMES:
            with self.subTest(name):
                self.assertRaises(TypeError, getattr(errors, name))
                self.assertRaises(TypeError, getattr(errors, name), 1, 2)

    def test_caught_as_any_refusal_with_words_of_its_own(self):
        for name in NAMES:
            with self.subTest(name):
                with self.assertRaises(errors.FlapError) as caught:
                    raise getattr(errors, name)(10 ** 5000)
                self.assertIsInstance(caught.exception, ValueError)
                self.assertTrue(str(caught.exception))

    def test_a_copy_keeps_the_value(self):
        for name in NAMES:
            with self.subTest(name):
                self.assertEqual(copy.copy(getattr(errors, name)(what=5)).what, 5)


if __name__ == "__main__":
    unittest.main()
