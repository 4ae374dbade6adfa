"""[13]: rains into single tanks, the bounds over all orders, and the water behind a given order."""

import unittest
from itertools import product
from random import Random

from flapwater.errors import NoFloors, NoOrder, NoRain
from flapwater.orders import behind, bounds

from tests.made import greatest_settled, meant, some_floors, sums, told, whole
from tests.rains import all_orders, at_once, bounds_one_by_one, each_alone, in_order, in_turn, some_rains
from tests.refusing import Refusing


def heaps(water):
    return sums(meant(water))


class Examples(unittest.TestCase):
    def test_two_rains(self):
        rains = [(1, (2, 1)), (2, (2, 1))]
        self.assertEqual(bounds([1, 1], rains), (whole(0, 1, 4), whole(0, 2, 4)))
        self.assertEqual(behind([1, 1], rains, [0, 1]), whole(1, 3))
        self.assertEqual(behind([1, 1], rains, [1, 0]), whole(2, 2))

    def test_other_floors(self):
        rains = [(2, (6, 1)), (1, (6, 1)), (3, (1, 2))]
        self.assertEqual(bounds([2, 1, 3], rains), (
            [(0, 1), (2, 1), (9, 2), (25, 2)], [(0, 1), (25, 6), (25, 4), (25, 2)]))
        self.assertEqual(behind([2, 1, 3], rains, [1, 0, 2]), [(2, 1), (5, 2), (8, 1)])
        self.assertEqual(behind([2, 1, 3], rains, [0, 1, 2]), [(4, 1), (2, 1), (13, 2)])
        self.assertEqual(behind([2, 1, 3], rains, [2, 0, 1]), [(25, 6), (25, 12), (25, 4)])

    def test_the_amounts_do_not_order_the_rains(self):
        for left, right in ((1, 9), (9, 1), (5, 5)):
            rains = [(2, (right, 1)), (1, (left, 1))]
            self.assertEqual(bounds([1, 1], rains)[0], told([0, meant((left, 2)), left + right]))
            self.assertEqual(bounds([1, 1], rains[::-1]), bounds([1, 1], rains))

    def test_without_rains_noughts(self):
        self.assertEqual(bounds([3], []), (whole(0, 0), whole(0, 0)))
        self.assertEqual(bounds([2, 1, 3], []), (whole(0, 0, 0, 0), whole(0, 0, 0, 0)))
        self.assertEqual(behind([3], [], []), whole(0))
        self.assertEqual(behind([2, 1, 3], [], []), whole(0, 0, 0))

    def test_one_rain(self):
        left = [(0, 1), (0, 1), (1, 3), (4, 3)]
        self.assertEqual(bounds([2, 1, 3], [(2, (4, 3))]), (left, left))
        self.assertEqual(behind([2, 1, 3], [(3, (4, 3))], [0]), [(0, 1), (0, 1), (4, 3)])

    def test_one_tank(self):
        rains = [(1, (1, 2)), (1, (1, 3)), (1, (1, 2))]
        self.assertEqual(bounds([7], rains), ([(0, 1), (4, 3)], [(0, 1), (4, 3)]))
        for order in all_orders(rains):
            self.assertEqual(behind([7], rains, order), [(4, 3)])

    def test_rains_into_the_same_tank(self):
        rains = [(2, (1, 1)), (1, (3, 1)), (2, (5, 1)), (1, (1, 1)), (2, (1, 1))]
        least, most = bounds([1, 2, 1], rains)
        self.assertEqual((meant(least), meant(most)), bounds_one_by_one([1, 2, 1], rains))
        self.assertEqual(bounds([1, 2, 1], rains), bounds([1, 2, 1], [(1, (4, 1)), (2, (7, 1))]))

    def test_told_kinds(self):
        for rains in ([], [(1, (1, 2)), (2, (3, 1))]):
            both, water = bounds([1, 2, 1], rains), behind([1, 2, 1], rains, list(range(len(rains))))
            self.assertIs(type(both), tuple)
            self.assertEqual([type(each) for each in (*both, water)], [list, list, list])
            self.assertEqual([len(each) for each in (*both, water)], [4, 4, 3])
            for fraction in both[0] + both[1] + water:
                self.assertIs(type(fraction), tuple)
                self.assertEqual([type(number) for number in fraction], [int, int])
                self.assertEqual(fraction, meant(fraction).as_integer_ratio())


class Bounds(unittest.TestCase):
    def check(self, floors, rains):
        with self.subTest(floors=floors, rains=rains):
            least, most = bounds(floors, rains)
            self.assertEqual((meant(least), meant(most)), bounds_one_by_one(floors, rains))

    def test_all_orders_one_by_one(self):
        chance = Random(81)
        for tanks in range(1, 5):
            for many in range(5):
                for _ in range(12):
                    self.check([chance.randint(1, 9) for _ in range(tanks)], some_rains(chance, tanks, many))

    def test_all_orders_of_all_small_rains(self):
        for floors in ([1, 1], [2, 1], [1, 2, 1], [1, 1, 1]):
            each = [(tank, (amount, 1)) for tank in range(1, len(floors) + 1) for amount in (1, 3)]
            for many in (2, 3):
                for rains in product(each, repeat=many):
                    self.check(floors, list(rains))

    def test_least_by_tanks_rising_and_most_by_tanks_falling_in_all_places_at_once(self):
        chance = Random(82)
        for _ in range(100):
            floors = some_floors(chance)
            rains = some_rains(chance, len(floors), chance.randint(0, 10))
            rising = sorted(range(len(rains)), key=lambda number: rains[number][0])
            falling = sorted(range(len(rains)), key=lambda number: -rains[number][0])
            least, most = bounds(floors, rains)
            self.assertEqual(heaps(behind(floors, rains, rising)), meant(least))
            self.assertEqual(heaps(behind(floors, rains, falling)), meant(most))

    def test_as_if_each_fell_alone_and_as_if_all_fell_at_once(self):
        chance = Random(83)
        for tanks in range(1, 9):
            for many in range(11):
                floors = [chance.randint(1, 9) for _ in range(tanks)]
                rains = some_rains(chance, tanks, many)
                least, most = bounds(floors, rains)
                self.assertEqual(meant(least), each_alone(floors, rains))
                self.assertEqual(meant(most), heaps(greatest_settled(floors, at_once(floors, rains), [])))

    def test_the_order_in_which_rains_are_handed_in_does_not_matter(self):
        chance = Random(84)
        for _ in range(60):
            floors = some_floors(chance)
            rains = some_rains(chance, len(floors), chance.randint(0, 10))
            told_ahead = bounds(floors, rains)
            chance.shuffle(rains)
            self.assertEqual(bounds(floors, rains), told_ahead)

    def test_most_is_nowhere_below_least(self):
        chance = Random(85)
        apart = 0
        for _ in range(60):
            floors = some_floors(chance)
            least, most = bounds(floors, some_rains(chance, len(floors), 10))
            self.assertTrue(all(low <= high for low, high in zip(meant(least), meant(most))))
            self.assertEqual((least[0], least[-1]), (most[0], most[-1]))
            apart += least != most
        self.assertGreater(apart, 40)

    def test_twenty_rains_are_answered_at_once(self):
        chance = Random(86)
        floors = [chance.randint(1, 9) for _ in range(12)]
        rains = some_rains(chance, 12, 20)
        self.assertEqual(meant(bounds(floors, rains)[0]), each_alone(floors, rains))


class Behind(unittest.TestCase):
    def test_as_a_history_without_bolts_that_has_a_step_for_each_rain(self):
        chance = Random(91)
        for tanks in range(1, 9):
            for many in range(11):
                floors = [chance.randint(1, 9) for _ in range(tanks)]
                rains = some_rains(chance, tanks, many)
                for _ in range(3):
                    order = chance.sample(range(many), many)
                    self.assertEqual(behind(floors, rains, order), in_order(floors, rains, order).water())

    def test_every_order_of_a_few_rains(self):
        chance = Random(92)
        for _ in range(20):
            floors = some_floors(chance, most=4)
            rains = some_rains(chance, len(floors), 4)
            for order in all_orders(rains):
                now = whole(*[0] * len(floors))
                for number in order:
                    tank, amount = rains[number]
                    fallen = list(now)
                    fallen[tank - 1] = told(meant(now[tank - 1]) + meant(amount))
                    now = greatest_settled(floors, fallen, [])
                self.assertEqual(behind(floors, rains, order), now)

    def test_the_first_of_the_order_falls_first(self):
        rains = [(1, (4, 1)), (2, (1, 1)), (2, (2, 1))]
        self.assertEqual(behind([1, 1], rains, [1, 0, 2]), [(5, 2), (9, 2)])
        self.assertEqual(behind([1, 1], rains, [1, 2, 0]), [(7, 2), (7, 2)])
        self.assertEqual(behind([1, 1], rains, [2, 0, 1]), [(3, 1), (4, 1)])

    def test_what_is_left_lies_between_the_bounds(self):
        chance = Random(93)
        for _ in range(150):
            floors = some_floors(chance)
            rains = some_rains(chance, len(floors), chance.randint(0, 10))
            least, most = bounds(floors, rains)
            left = heaps(behind(floors, rains, chance.sample(range(len(rains)), len(rains))))
            self.assertTrue(all(low <= at <= high for low, at, high in zip(meant(least), left, meant(most))))

    def test_as_they_stand(self):
        chance = Random(94)
        for _ in range(40):
            floors = some_floors(chance)
            rains = some_rains(chance, len(floors), 10)
            self.assertEqual(behind(floors, rains, list(range(10))), in_turn(floors, rains).water())


class Refused(Refusing):
    def both(self, error, what, floors, rains):
        self.refused(error, what, bounds, floors, rains)
        for order in (list(range(len(rains))), [], [0, 0], [-1]):
            self.refused(error, what, behind, floors, rains, order)

    def test_no_floors_go_first(self):
        for rains in ([], [(1, (1, 1))], [(0, (1, 1))], [(1, (0, 1))]):
            self.both(NoFloors, None, [], rains)
            self.both(NoFloors, 0, [0], rains)
            self.both(NoFloors, 1, [3, -1, 0], rains)

    def test_no_such_tank(self):
        for tanks in (1, 2, 8):
            for tank in (0, -1, -tanks, tanks + 1, 10 ** 400):
                floors = [1] * tanks
                self.both(NoRain, 0, floors, [(tank, (1, 1))])
                self.both(NoRain, 2, floors, [(1, (1, 1)), (tanks, (1, 1)), (tank, (1, 1)), (1, (1, 1))])

    def test_no_amount_above_nought(self):
        for amount in ((0, 1), (-1, 1), (-1, 60), (-10 ** 12, 7)):
            self.both(NoRain, 0, [1, 1], [(1, amount)])
            self.both(NoRain, 1, [1, 1], [(2, (1, 60)), (1, amount), (2, (1, 1))])

    def test_the_first_of_either_kind(self):
        self.both(NoRain, 1, [1, 1], [(1, (1, 1)), (1, (0, 1)), (3, (1, 1))])
        self.both(NoRain, 1, [1, 1], [(1, (1, 1)), (3, (1, 1)), (1, (0, 1))])
        self.both(NoRain, 0, [1, 1], [(0, (-1, 1)), (3, (1, 1))])

    def test_the_first_as_they_are_handed_in(self):
        # Neither by the tanks' numbers nor by the order that is asked.
        rains = [(2, (1, 1)), (9, (1, 1)), (0, (1, 1))]
        self.refused(NoRain, 1, bounds, [1, 1], rains)
        self.refused(NoRain, 1, behind, [1, 1], rains, [2, 1, 0])

    def test_the_first_and_the_last_tank_and_however_little_are_there(self):
        rains = [(8, (1, 10 ** 399)), (1, (1, 60))]
        self.assertEqual(bounds([1] * 8, rains)[0][1], (1, 480))
        self.assertEqual(behind([1] * 8, rains, [1, 0])[0], (1, 480))

    def test_no_order(self):
        rains = [(1, (1, 1)), (2, (1, 1)), (1, (2, 1))]
        for order in ([], [0], [0, 1], [1, 2], [0, 2], [0, 1, 1], [0, 0, 0], [2, 1, 2], [0, 1, 3], [1, 2, 3],
                      [-1, 0, 1], [0, 1, -1], [-3, -2, -1], [0, 1, 2, 3], [0, 1, 2, 0], [2, 1, 0, -1],
                      [0, 1, 10 ** 400], [0, 1, 2, 2, 1, 0]):
            self.refused(NoOrder, None, behind, [1, 1], rains, order)
        for order in ([0], [-1], [1], [0, 0]):
            self.refused(NoOrder, None, behind, [1, 1], [], order)
        for order in ([], [1], [-1], [0, 0], [0, 1]):
            self.refused(NoOrder, None, behind, [1, 1], rains[:1], order)

    def test_alike_rains_have_numbers_of_their_own(self):
        rains = [(1, (1, 1)), (1, (1, 1))]
        self.refused(NoOrder, None, behind, [1, 1], rains, [0, 0])
        self.assertEqual(behind([1, 1], rains, [1, 0]), whole(1, 1))


if __name__ == "__main__":
    unittest.main()
