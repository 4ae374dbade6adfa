"""[6], and what [1] and [4] say of tanks: bolted flaps, stretches, and the one rest."""

import unittest
from fractions import Fraction
from itertools import permutations, product
from random import Random

from flapwater.errors import NoFlap
from flapwater.tanks import heaped, settled

from tests.made import greatest_settled, let_by, many_rows, meant, some_water, stretch_ends, sums, told, whole


def heights(floors, water):
    return [amount / floor for floor, amount in zip(floors, meant(water))]


def rest_by_trickles(floors, water, bolted):
    """Where the water comes to rest, near enough, when one flap after the other lets by until level."""
    now = [float(amount) for amount in meant(water)]
    for _ in range(3000):
        for k in range(len(floors) - 1, 0, -1):
            if k not in bolted:
                left, right = floors[k - 1], floors[k]
                moved = max(0.0, (now[k - 1] * right - now[k] * left) / (left + right))
                now[k - 1] -= moved
                now[k] += moved
    return now


class Examples(unittest.TestCase):
    def test_one_tank(self):
        self.assertEqual(settled([3], [(5, 7)]), [(5, 7)])
        self.assertEqual(settled([3], [(5, 7)], []), [(5, 7)])
        self.assertEqual(settled([1], [(0, 1)]), [(0, 1)])

    def test_higher_on_the_left(self):
        self.assertEqual(settled([1, 1], whole(4, 0)), whole(2, 2))
        self.assertEqual(settled([2, 1], whole(3, 0)), whole(2, 1))
        self.assertEqual(settled([2, 3], whole(6, 0)), [(12, 5), (18, 5)])

    def test_alike_on_both_sides(self):
        self.assertEqual(settled([2, 3], whole(4, 6)), whole(4, 6))
        self.assertEqual(settled([2, 3, 1], [(1, 3), (1, 2), (1, 6)]), [(1, 3), (1, 2), (1, 6)])

    def test_lower_on_the_left_does_not_flow_back(self):
        self.assertEqual(settled([2, 3], whole(1, 6)), whole(1, 6))
        self.assertEqual(settled([1, 1, 1], whole(0, 0, 9)), whole(0, 0, 9))

    def test_more_water_does_not_mean_higher(self):
        self.assertEqual(settled([9, 1], whole(9, 2)), whole(9, 2))
        self.assertEqual(settled([1, 9], whole(2, 9)), [(11, 10), (99, 10)])

    def test_a_lowered_pool_draws_from_the_one_ahead(self):
        self.assertEqual(settled([1, 1, 1], whole(2, 3, 0)), [(5, 3), (5, 3), (5, 3)])
        self.assertEqual(settled([1, 1, 1], whole(1, 4, 0)), whole(1, 2, 2))
        self.assertEqual(settled([1, 1, 1, 1], whole(3, 3, 4, 0)), [(5, 2)] * 4)

    def test_bolted_left_out_none_one_and_all(self):
        floors, water = [2, 1, 3], whole(4, 1, 0)
        self.assertEqual(settled(floors, water), [(5, 3), (5, 6), (5, 2)])
        self.assertEqual(settled(floors, water, []), [(5, 3), (5, 6), (5, 2)])
        self.assertEqual(settled(floors, water, [1]), [(4, 1), (1, 4), (3, 4)])
        self.assertEqual(settled(floors, water, [2]), [(10, 3), (5, 3), (0, 1)])
        self.assertEqual(settled(floors, water, [1, 2]), whole(4, 1, 0))

    def test_bolted_in_any_order(self):
        floors, water = [1, 2, 3, 4, 5], whole(9, 3, 7, 1, 0)
        for bolted in permutations([1, 3, 4]):
            self.assertEqual(settled(floors, water, list(bolted)), settled(floors, water, [1, 3, 4]))

    def test_eight_tanks(self):
        self.assertEqual(settled([1] * 8, whole(8, 0, 0, 0, 0, 0, 0, 0)), whole(*[1] * 8))
        self.assertEqual(settled([1] * 8, whole(8, 0, 0, 0, 8, 0, 0, 0), [4]), whole(*[2] * 8))
        self.assertEqual(settled([1] * 8, whole(8, 7, 6, 5, 4, 3, 2, 1)), [(9, 2)] * 8)
        self.assertEqual(settled([1] * 8, whole(1, 2, 3, 4, 5, 6, 7, 8)), whole(1, 2, 3, 4, 5, 6, 7, 8))

    def test_told_is_a_list_of_tuples_in_lowest_terms(self):
        found = settled([2, 2], [(1, 2), (0, 1)])
        self.assertEqual(found, [(1, 4), (1, 4)])
        self.assertIs(type(found), list)
        self.assertEqual([type(amount) for amount in found], [tuple, tuple])


class OneRest(unittest.TestCase):
    def test_the_greatest_of_the_document(self):
        for floors, water, bolted in many_rows(600):
            with self.subTest(floors=floors, water=water, bolted=bolted):
                self.assertEqual(settled(floors, water, bolted), greatest_settled(floors, water, bolted))

    def test_the_greatest_on_all_small_rows(self):
        for floors in product([1, 2], repeat=4):
            for amounts in product([0, 1, 3], repeat=4):
                water = whole(*amounts)
                for bolted in ([], [2], [3, 1]):
                    self.assertEqual(settled(list(floors), water, bolted),
                                     greatest_settled(list(floors), water, bolted))

    def test_heaped_is_not_above_and_alike_at_the_ends_of_stretches(self):
        for floors, water, bolted in many_rows(200, seed=3):
            ahead = meant(heaped(floors, water))
            behind = meant(heaped(floors, settled(floors, water, bolted)))
            self.assertTrue(all(less <= more for less, more in zip(behind, ahead)))
            for start, end in stretch_ends(floors, bolted):
                self.assertEqual((behind[start], behind[end]), (ahead[start], ahead[end]))

    def test_no_free_flap_has_water_standing_higher_on_its_left(self):
        for floors, water, bolted in many_rows(200, seed=4):
            high = heights(floors, settled(floors, water, bolted))
            for k in range(1, len(floors)):
                if k not in bolted:
                    self.assertLessEqual(high[k - 1], high[k])

    def test_water_at_rest_stays(self):
        for floors, water, bolted in many_rows(200, seed=5):
            rest = settled(floors, water, bolted)
            self.assertEqual(settled(floors, rest, bolted), rest)

    def test_stretches_settle_by_themselves(self):
        for floors, water, bolted in many_rows(200, seed=6):
            alone = []
            for start, end in stretch_ends(floors, bolted):
                alone += settled(floors[start:end], water[start:end])
            self.assertEqual(settled(floors, water, bolted), alone)

    def test_whatever_flaps_let_by_first_and_however_little(self):
        chance = Random(7)
        for floors, water, bolted in many_rows(200, seed=7):
            rest = settled(floors, water, bolted)
            for times in (1, 3, 10):
                later = let_by(chance, floors, water, bolted, times)
                self.assertEqual(settled(floors, later, bolted), rest)

    def test_trickles_come_to_it(self):
        chance = Random(8)
        for _ in range(20):
            floors = [chance.randint(1, 9) for _ in range(chance.randint(2, 8))]
            water = whole(*[chance.randint(0, 20) for _ in floors])
            bolted = [k for k in range(1, len(floors)) if chance.random() < 0.2]
            near = rest_by_trickles(floors, water, bolted)
            for found, amount in zip(meant(settled(floors, water, bolted)), near):
                self.assertAlmostEqual(float(found), amount, places=6)

    def test_no_other_row_of_that_shape_is_above(self):
        # Rows of that shape that are nowhere above the heaped water are at hand as the rests of less water.
        chance = Random(9)
        for floors, water, bolted in many_rows(200, seed=9):
            less = [told(amount * Fraction(chance.randint(0, 3), 3)) for amount in meant(water)]
            below = sums(meant(settled(floors, less, bolted)))
            rest = sums(meant(settled(floors, water, bolted)))
            self.assertTrue(all(low <= high for low, high in zip(below, rest)))


class Refused(unittest.TestCase):
    def refused(self, floors, bolted, what):
        water = some_water(Random(1), floors)
        with self.subTest(bolted), self.assertRaises(NoFlap) as caught:
            settled(floors, water, bolted)
        self.assertEqual(caught.exception.what, what)

    def test_flaps_that_there_are_not(self):
        self.refused([1], [1], 1)
        self.refused([1], [0], 0)
        self.refused([1, 1], [0], 0)
        self.refused([1, 1], [2], 2)
        self.refused([1, 1], [-1], -1)
        self.refused([1] * 8, [1, 2, 3, 4, 5, 6, 7, 8], 8)
        self.refused([1, 1], [10 ** 30], 10 ** 30)

    def test_flaps_that_stand_there_twice(self):
        self.refused([1, 1], [1, 1], 1)
        self.refused([1, 1, 1, 1], [3, 1, 2, 1, 3], 1)
        self.refused([1, 1, 1, 1], [3, 1, 3, 1], 3)

    def test_the_first_of_either_kind(self):
        self.refused([1, 1, 1], [1, 3, 1], 3)
        self.refused([1, 1, 1], [1, 1, 3], 1)
        self.refused([1, 1, 1], [2, 5, 4], 5)
        self.refused([1, 1, 1], [4, 4], 4)

    def test_the_last_and_the_first_flap_are_there(self):
        self.assertEqual(settled([1] * 8, whole(8, 7, 6, 5, 4, 3, 2, 1), [7, 1]),
                         whole(8) + [(9, 2)] * 6 + whole(1))


if __name__ == "__main__":
    unittest.main()
