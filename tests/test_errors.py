"""[3]: the refusals and the value that each keeps."""

import copy
import unittest

from flapwater import errors
from flapwater.drops import drop_less, drop_more
from flapwater.histories import History
from flapwater.orders import behind, bounds
from flapwater.papers import shows
from flapwater.readings import read_fraction, read_history, read_water
from flapwater.tanks import heaped, places, settled
from flapwater.texts import show_history
from flapwater.wanderers import price

from tests.made import played, whole

NAMES = ["NoFloors", "NoWater", "NoFlap", "NoStep", "NoTable", "NoRows",
         "NoDrop", "NoTank", "NoRain", "NoOrder", "NoText"]
VALUES = [None, 0, -1, 7, 10 ** 5000, (0, 3), "1/0", ""]


def history():
    return played([2, 1, 3], whole(4, 1, 0), [([1], whole(1, 0, 2))])


# Tuples (class, its value, function, what it is asked with): each that refuses, with each class that it refuses with.
REFUSED = [
    (errors.NoFloors, 1, places, ([1, 0],)),
    (errors.NoFloors, None, heaped, ([], [])),
    (errors.NoWater, 0, heaped, ([1], whole(-1))),
    (errors.NoFloors, 0, settled, ([0], whole(1))),
    (errors.NoWater, None, settled, ([1], [])),
    (errors.NoFlap, 1, settled, ([1], whole(1), [1])),
    (errors.NoFloors, None, History, ([],)),
    (errors.NoWater, 1, History, ([1, 1], whole(0, -1))),
    (errors.NoFlap, 3, history().step, ([3], whole(0, 0, 0))),
    (errors.NoWater, None, history().step, ([], whole(0, 0))),
    (errors.NoStep, 2, history().water, (2,)),
    (errors.NoFlap, 4, history().left, (4,)),
    (errors.NoStep, 0, History([1]).undo, ()),
    (errors.NoTable, None, price, (history(), [], 0)),
    (errors.NoTable, (0, 2), price, (history(), [[[(0, (1, 1))], [(1, (1, 1))], [], [(3, (1, 1))]]], 0)),
    (errors.NoFlap, 2, price, (History([1]), [], 2)),
    (errors.NoRows, None, shows, (history(), [])),
    (errors.NoStep, 1, drop_more, (history(), 1, 1)),
    (errors.NoTank, 4, drop_more, (history(), 0, 4)),
    (errors.NoStep, -1, drop_less, (history(), -1, 1)),
    (errors.NoTank, 0, drop_less, (history(), 0, 0)),
    (errors.NoDrop, None, drop_less, (history(), 0, 2)),
    (errors.NoFloors, 2, bounds, ([1, 1, -1], [])),
    (errors.NoRain, 0, bounds, ([1, 1], [(3, (1, 1))])),
    (errors.NoFloors, None, behind, ([], [], [])),
    (errors.NoRain, 1, behind, ([1, 1], [(2, (1, 1)), (1, (0, 1))], [0, 1])),
    (errors.NoOrder, None, behind, ([1, 1], [(2, (1, 1))], [1])),
    (errors.NoText, "2/4", read_fraction, ("2/4",)),
    (errors.NoText, "", read_water, ("",)),
    (errors.NoText, "0 | 0", read_history, ("0 | 0",)),
]


class Raised(unittest.TestCase):
    def test_each_is_raised_with_its_value(self):
        for error, what, asked, told_with in REFUSED:
            with self.subTest(asked=asked, what=what):
                with self.assertRaises(ValueError) as caught:
                    asked(*told_with)
                self.assertIsInstance(caught.exception, errors.FlapError)
                self.assertIs(type(caught.exception), error)
                self.assertEqual(caught.exception.what, what)

    def test_all_classes_are_raised(self):
        self.assertEqual({error.__name__ for error, *_ in REFUSED}, set(NAMES))

    def test_what_is_refused_changes_nothing(self):
        for _, _, asked, told_with in REFUSED:
            before = copy.deepcopy(told_with)
            self.assertRaises(errors.FlapError, asked, *told_with)
            self.assertEqual(told_with, before)
            holder = getattr(asked, "__self__", None)
            if isinstance(holder, History):
                self.assertIn(show_history(holder), (show_history(history()), show_history(History([1]))))


class Refusals(unittest.TestCase):
    def test_every_class_of_the_interface_is_defined_in_the_file(self):
        found = [name for name, value in vars(errors).items()
                 if isinstance(value, type) and value.__module__ == "flapwater.errors"]
        self.assertEqual(sorted(found), sorted(NAMES + ["FlapError"]))

    def test_flap_error_stands_straight_under_value_error(self):
        self.assertEqual(errors.FlapError.__bases__, (ValueError,))

    def test_each_other_one_stands_straight_under_flap_error(self):
        for name in NAMES:
            with self.subTest(name):
                self.assertEqual(getattr(errors, name).__bases__, (errors.FlapError,))

    def test_value_by_place(self):
        for name in NAMES:
            for value in VALUES:
                with self.subTest(name):
                    self.assertEqual(getattr(errors, name)(value).what, value)

    def test_value_by_name(self):
        for name in NAMES:
            for value in VALUES:
                with self.subTest(name):
                    self.assertEqual(getattr(errors, name)(what=value).what, value)

    def test_not_without_a_value_nor_with_two(self):
        for name in NAMES:
            with self.subTest(name):
                self.assertRaises(TypeError, getattr(errors, name))
                self.assertRaises(TypeError, getattr(errors, name), 1, 2)

    def test_caught_as_any_refusal_with_words_of_its_own(self):
        for name in NAMES:
            with self.subTest(name):
                with self.assertRaises(errors.FlapError) as caught:
                    raise getattr(errors, name)(10 ** 5000)
                self.assertIsInstance(caught.exception, ValueError)
                self.assertTrue(str(caught.exception))

    def test_a_copy_keeps_the_value(self):
        for name in NAMES:
            with self.subTest(name):
                self.assertEqual(copy.copy(getattr(errors, name)(what=5)).what, 5)


if __name__ == "__main__":
    unittest.main()
