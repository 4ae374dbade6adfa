"""[5]: floors, places, water, heaped, and how they are refused."""

import unittest
from math import gcd

from flapwater.errors import NoFlap, NoFloors, NoWater
from flapwater.tanks import heaped, places, settled

from tests.made import many_rows, meant, sums, told, whole


class Places(unittest.TestCase):
    def test_one_tank(self):
        self.assertEqual(places([1]), [0, 1])
        self.assertEqual(places([9]), [0, 9])

    def test_some_tanks(self):
        self.assertEqual(places([2, 1, 3]), [0, 2, 3, 6])

    def test_eight_tanks(self):
        self.assertEqual(places([1, 2, 3, 4, 5, 6, 7, 9]), [0, 1, 3, 6, 10, 15, 21, 28, 37])
        self.assertEqual(places([9] * 8), [0, 9, 18, 27, 36, 45, 54, 63, 72])

    def test_told_is_a_list_of_whole_numbers(self):
        found = places([2, 1, 3])
        self.assertIs(type(found), list)
        self.assertEqual([type(place) for place in found], [int] * 4)

    def test_no_tanks(self):
        with self.assertRaises(NoFloors) as caught:
            places([])
        self.assertIsNone(caught.exception.what)

    def test_the_number_of_the_first_floor_below_one(self):
        for floors, number in [([0], 0), ([-1], 0), ([1, 0], 1), ([1, 0, 0], 1), ([3, 1, -5, 0], 2),
                               ([0, 1, 1], 0), ([1] * 7 + [0], 7), ([-10 ** 400, 1], 0)]:
            with self.subTest(floors), self.assertRaises(NoFloors) as caught:
                places(floors)
            self.assertEqual(caught.exception.what, number)
            self.assertIs(type(caught.exception.what), int)


class Heaped(unittest.TestCase):
    def test_one_tank(self):
        self.assertEqual(heaped([3], [(5, 7)]), [(0, 1), (5, 7)])

    def test_some_tanks(self):
        self.assertEqual(heaped([2, 1, 3], whole(4, 1, 0)), whole(0, 4, 5, 5))

    def test_lowest_terms(self):
        self.assertEqual(heaped([1, 1, 1], [(1, 6), (1, 3), (1, 2)]), [(0, 1), (1, 6), (1, 2), (1, 1)])
        self.assertEqual(heaped([1, 1], [(1, 60), (59, 60)]), [(0, 1), (1, 60), (1, 1)])

    def test_eight_tanks(self):
        self.assertEqual(heaped([1] * 8, [(1, 2)] * 8),
                         [(0, 1), (1, 2), (1, 1), (3, 2), (2, 1), (5, 2), (3, 1), (7, 2), (4, 1)])

    def test_nought(self):
        self.assertEqual(heaped([4, 5], whole(0, 0)), [(0, 1), (0, 1), (0, 1)])

    def test_told_is_a_list_of_tuples_of_ints(self):
        found = heaped([4, 5], [(1, 2), (0, 1)])
        self.assertIs(type(found), list)
        for amount in found:
            self.assertIs(type(amount), tuple)
            self.assertEqual([type(part) for part in amount], [int, int])

    def test_not_settled(self):
        self.assertEqual(heaped([1, 1], whole(9, 0)), whole(0, 9, 9))

    def test_many_rows(self):
        for floors, water, _ in many_rows(200):
            found = heaped(floors, water)
            self.assertEqual(found, told(sums(meant(water))))
            for top, bottom in found:
                self.assertEqual(gcd(top, bottom), 1)
                self.assertGreaterEqual(bottom, 1)


class Refused(unittest.TestCase):
    def each(self, error, what, floors, water):
        for asked in (heaped, settled):
            with self.subTest(asked.__name__, floors=floors, water=water):
                with self.assertRaises(error) as caught:
                    asked(floors, water)
                self.assertEqual(caught.exception.what, what)

    def test_floors(self):
        self.each(NoFloors, None, [], [])
        self.each(NoFloors, 0, [0], whole(1))
        self.each(NoFloors, 1, [1, -2, 0], whole(1, 1, 1))

    def test_not_as_many_as_tanks(self):
        self.each(NoWater, None, [1], [])
        self.each(NoWater, None, [1], whole(1, 2))
        self.each(NoWater, None, [1, 1, 1], whole(1, 2))
        self.each(NoWater, None, [1, 1, 1], whole(1, 2, 3, 4))

    def test_the_number_of_the_first_amount_below_nought(self):
        self.each(NoWater, 0, [1], [(-1, 60)])
        self.each(NoWater, 1, [1, 1, 1], [(0, 1), (-1, 2), (-3, 1)])
        self.each(NoWater, 7, [1] * 8, whole(0, 1, 2, 3, 4, 5, 6, -1))
        self.each(NoWater, 0, [1] * 8, whole(-1, 1, 2, 3, 4, 5, 6, -1))

    def test_the_count_goes_ahead_of_the_amounts(self):
        self.each(NoWater, None, [1, 1], whole(-1))
        self.each(NoWater, None, [1, 1], whole(-1, 0, 0))

    def test_floors_go_ahead_of_water(self):
        self.each(NoFloors, 1, [1, 0], whole(-1, 1))
        self.each(NoFloors, 1, [1, 0], whole(1))
        self.each(NoFloors, None, [], whole(-1))

    def test_nought_is_not_below_nought(self):
        self.assertEqual(heaped([1, 1], whole(0, 0)), whole(0, 0, 0))

    def test_floors_and_water_go_ahead_of_flaps(self):
        for floors, water, bolted, error, what in [
            ([], [], [1], NoFloors, None),
            ([1, 0], whole(-1, 1), [9], NoFloors, 1),
            ([1, 1], whole(1, -1), [9], NoWater, 1),
            ([1, 1], whole(1), [1, 1], NoWater, None),
            ([1, 1], whole(1, 1), [9], NoFlap, 9),
        ]:
            with self.subTest(floors=floors, water=water), self.assertRaises(error) as caught:
                settled(floors, water, bolted)
            self.assertEqual(caught.exception.what, what)


if __name__ == "__main__":
    unittest.main()
