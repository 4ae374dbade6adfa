"""[8] and [9]: wanderers, fair lots, tables, and the price of a place by a table."""

import unittest
from fractions import Fraction
from math import gcd
from random import Random

from flapwater.errors import NoFlap, NoTable
from flapwater.histories import History
from flapwater.tanks import places
from flapwater.wanderers import price

from tests.lots import mixed, reach, reckoned, some_part, some_table, staying, told_lot, two_place_lots, way_by_way
from tests.made import all_left, every_size, meant, played, small_histories, told, whole
from tests.refusing import Refusing


def prices(history, table):
    return [meant(price(history, table, k)) for k in range(len(history.floors()) + 1)]


class Examples(unittest.TestCase):
    def test_who_stays_pays_what_has_fallen_left_of_it(self):
        history = played([2, 1, 3], whole(1, 2, 3), [([], whole(4, 0, 1)), ([1], whole(0, 5, 0))])
        self.assertEqual(prices(history, staying(history)), [0, 5, 12, 16])

    def test_the_lot_comes_ahead_of_the_rain(self):
        history = played([1, 1], None, [([], whole(2, 0))])
        table = [[[(0, (1, 1))], [(0, (1, 2)), (2, (1, 2))], [(2, (1, 1))]]]
        self.assertEqual([price(history, table, k) for k in range(3)], whole(0, 1, 2))
        self.assertEqual(price(history, staying(history), 1), (2, 1))

    def test_what_stood_at_first_is_paid_where_the_wanderer_is_at_the_end(self):
        history = played([1, 1], whole(2, 0), [([], whole(0, 0))])
        table = [[[(0, (1, 1))], [(0, (1, 2)), (2, (1, 2))], [(2, (1, 1))]]]
        self.assertEqual([price(history, table, k) for k in range(3)], whole(0, 1, 2))

    def test_the_last_step_comes_first(self):
        history = played([1, 1], None, [([1], whole(2, 0)), ([], whole(0, 0))])
        goes = [[(0, (1, 1))], [(0, (1, 2)), (2, (1, 2))], [(2, (1, 1))]]
        stays = [[(0, (1, 1))], [(1, (1, 1))], [(2, (1, 1))]]
        self.assertEqual(price(history, [stays, goes], 1), (1, 1))
        self.assertEqual(price(history, [stays, stays], 1), (2, 1))

    def test_places_are_weighed_by_their_numbers(self):
        history = played([2, 1, 3], None, [([], whole(6, 0, 0))])
        table = staying(history)
        table[0][1] = [(0, (2, 3)), (3, (1, 3))]
        table[0][2] = [(0, (1, 2)), (3, (1, 2))]
        self.assertEqual([price(history, table, k) for k in range(4)], whole(0, 2, 3, 6))
        table[0][2] = [(1, (3, 4)), (3, (1, 4))]
        self.assertEqual(price(history, table, 2), (6, 1))

    def test_without_steps_the_table_is_the_empty_list(self):
        history = History([2, 1], [(1, 2), (1, 3)])
        self.assertEqual([price(history, [], k) for k in range(3)], [(0, 1), (1, 2), (5, 6)])

    def test_one_tank(self):
        history = played([5], [(1, 2)], [([], [(1, 3)]), ([], [(1, 6)])])
        self.assertEqual([price(history, staying(history), k) for k in (0, 1)], whole(0, 1))

    def test_who_stands_next_to_a_bolted_flap_may_go_to_it(self):
        history = played([1, 1, 1, 1], None, [([3], whole(3, 0, 0, 0))])
        table = staying(history)
        table[0][1] = [(0, (2, 3)), (3, (1, 3))]
        table[0][2] = [(0, (1, 3)), (3, (2, 3))]
        self.assertEqual([price(history, table, k) for k in range(5)], whole(0, 1, 2, 3, 3))

    def test_three_and_four_places(self):
        history = played([1, 1, 1, 1], None, [([], whole(4, 2, 1, 0))])
        table = staying(history)
        table[0][2] = [(0, (1, 4)), (2, (1, 2)), (4, (1, 4))]
        self.assertEqual(price(history, table, 2), (19, 4))
        table[0][2] = [(0, (1, 4)), (1, (1, 4)), (3, (1, 4)), (4, (1, 4))]
        self.assertEqual(price(history, table, 2), (9, 2))
        table[0][2] = [(0, (1, 5)), (1, (1, 5)), (2, (1, 5)), (3, (1, 5)), (4, (1, 5))]
        self.assertEqual(price(history, table, 2), (24, 5))


class Reckoned(unittest.TestCase):
    def test_histories_of_every_size(self):
        chance = Random(31)
        for history in every_size(31):
            table = some_table(chance, history)
            left = all_left(history)
            for k, found in enumerate(prices(history, table)):
                self.assertEqual(found, reckoned(history, table, k))
                self.assertGreaterEqual(found, left[k])

    def test_way_by_way(self):
        chance = Random(32)
        for history in small_histories(32, 150, tanks=5, steps=3):
            table = some_table(chance, history)
            for k, found in enumerate(prices(history, table)):
                self.assertEqual(found, way_by_way(history, table, k))

    def test_all_lots_of_two_places_of_one_step(self):
        for bolted in ([], [2], [1, 3]):
            history = played([2, 1, 3, 1], whole(1, 0, 2, 0), [(bolted, whole(4, 2, 1, 0))])
            for k in range(5):
                for lot in two_place_lots([2, 1, 3, 1], bolted, k):
                    table = staying(history)
                    table[0][k] = lot
                    self.assertEqual(meant(price(history, table, k)), way_by_way(history, table, k))

    def test_chances_of_hundreds_of_figures(self):
        chance = Random(33)
        for figures in (100, 400):
            for history in every_size(33, most_tanks=5, most_steps=3)[::7]:
                table = some_table(chance, history, figures)
                for k, found in enumerate(prices(history, table)):
                    self.assertEqual(found, reckoned(history, table, k))

    def test_a_price_is_a_fraction_in_lowest_terms(self):
        chance = Random(34)
        for history in every_size(34)[::3]:
            table = some_table(chance, history)
            for k in range(len(history.floors()) + 1):
                found = price(history, table, k)
                self.assertIs(type(found), tuple)
                self.assertEqual([type(part) for part in found], [int, int])
                self.assertGreaterEqual(found[1], 1)
                self.assertEqual(gcd(*found), 1)
            self.assertEqual(price(history, table, 0), (0, 1))

    def test_two_lots_mixed_in_one_place_pay_the_mixture(self):
        chance = Random(35)
        for history in small_histories(35, 200, tanks=6, steps=4):
            steps = history.steps()
            if not steps:
                continue
            number, k = chance.randrange(len(steps)), chance.randrange(len(history.floors()) + 1)
            one, other = some_table(chance, history), some_table(chance, history)
            other = [one[at] if at != number else list(one[at]) for at in range(len(steps))]
            other[number][k] = some_table(chance, history)[number][k]
            part = some_part(chance, 3)
            both = list(one)
            both[number] = list(one[number])
            lots = [{place: meant(share) for place, share in table[number][k]} for table in (one, other)]
            both[number][k] = told_lot(mixed(*lots, part))
            mixture = [a * part + b * (1 - part) for a, b in zip(prices(history, one), prices(history, other))]
            self.assertEqual(prices(history, both), mixture)


class Forms(Refusing):
    def test_not_as_many_lists_as_steps(self):
        history = played([1, 1], None, [([], whole(1, 0)), ([1], whole(0, 1))])
        table = staying(history)
        for other in ([], table[:1], table + table[:1]):
            self.refused(NoTable, None, price, history, other, 1)
        self.refused(NoTable, None, price, History([1]), [[[(0, (1, 1))], [(1, (1, 1))]]], 1)
        self.refused(NoTable, None, price, History([1]), [[]], 1)

    def test_not_as_many_lots_as_places(self):
        history = played([1, 1], None, [([], whole(1, 0)), ([1], whole(0, 1))])
        for number in (0, 1):
            for lots in ([], staying(history)[0][:2], staying(history)[0] + [[(2, (1, 1))]]):
                table = staying(history)
                table[number] = lots
                self.refused(NoTable, None, price, history, table, 1)

    def test_forms_go_ahead_of_lots_that_are_not_fair(self):
        history = played([1, 1], None, [([], whole(1, 0)), ([1], whole(0, 1))])
        unfair = [[(0, (1, 1))], [(9, (1, 1))], []]
        self.refused(NoTable, None, price, history, [unfair], 1)
        self.refused(NoTable, None, price, history, [unfair, unfair[:2]], 1)
        self.refused(NoTable, None, price, history, [unfair, unfair, unfair], 9)


class NotFair(Refusing):
    floors = [2, 1, 3, 1]

    def history(self):
        steps = [([], whole(4, 0, 1, 0)), ([2], whole(0, 5, 0, 0)), ([3, 1], whole(1, 1, 1, 1))]
        return played(self.floors, None, steps)

    def not_fair(self, number, k, lot):
        history, table = self.history(), staying(self.history())
        table[number][k] = lot
        for asked in (k, 0, 99, -1):
            self.refused(NoTable, (number, k), price, history, table, asked)

    def test_what_is_told_is_a_tuple_of_two_numbers(self):
        table = staying(self.history())
        table[2][4] = []
        with self.assertRaises(NoTable) as caught:
            price(self.history(), table, 1)
        self.assertIs(type(caught.exception.what), tuple)
        self.assertEqual([type(each) for each in caught.exception.what], [int, int])

    def test_no_lot_at_all(self):
        for number in range(3):
            for k in range(5):
                self.not_fair(number, k, [])

    def test_a_place_that_there_is_not(self):
        self.not_fair(0, 2, [(5, (1, 1))])
        self.not_fair(0, 2, [(-1, (1, 2)), (4, (1, 2))])
        self.not_fair(0, 1, [(-2, (1, 1))])
        self.not_fair(0, 4, [(-1, (1, 1))])
        self.not_fair(0, 4, [(5, (1, 1))])
        self.not_fair(0, 0, [(-5, (1, 1))])
        self.not_fair(0, 2, [(2, (1, 1)), (5, (0, 1))])
        self.not_fair(0, 2, [(10 ** 30, (1, 1))])

    def test_a_place_twice(self):
        self.not_fair(0, 2, [(2, (1, 2)), (2, (1, 2))])
        self.not_fair(0, 1, [(0, (1, 6)), (0, (1, 2)), (3, (1, 3))])
        self.not_fair(1, 2, [(2, (1, 2)), (2, (1, 2))])
        self.not_fair(0, 0, [(0, (1, 2)), (0, (1, 2))])

    def test_places_that_fall(self):
        self.not_fair(0, 2, [(3, (1, 2)), (0, (1, 2))])
        self.not_fair(0, 1, [(3, (1, 3)), (0, (2, 3))])
        self.not_fair(0, 2, [(0, (1, 4)), (3, (1, 4)), (2, (1, 2))])

    def test_chances_that_do_not_make_one(self):
        self.not_fair(0, 2, [(2, (1, 2))])
        self.not_fair(0, 2, [(2, (2, 1))])
        self.not_fair(0, 2, [(0, (1, 4)), (3, (1, 4))])
        self.not_fair(0, 2, [(0, (1, 1)), (3, (1, 1))])
        self.not_fair(0, 0, [(0, (1, 2))])
        self.not_fair(0, 1, [(1, (10 ** 400 - 1, 10 ** 400))])
        # The mean is the place's number, though the chances do not make 1.
        self.not_fair(0, 2, [(1, (3, 2))])
        self.not_fair(0, 1, [(3, (1, 3))])

    def test_a_chance_of_nought_or_below(self):
        self.not_fair(0, 2, [(0, (0, 1)), (2, (1, 1))])
        self.not_fair(0, 2, [(2, (1, 1)), (4, (0, 1))])
        self.not_fair(0, 0, [(0, (1, 1)), (1, (0, 1))])
        self.not_fair(0, 2, [(1, (2, 1)), (2, (-2, 1)), (4, (1, 1))])
        # Chances that make 1 and lie on average at the place, though one is below 0.
        self.not_fair(0, 2, [(1, (3, 1)), (2, (-3, 1)), (3, (1, 1))])
        self.not_fair(0, 1, [(0, (1, 1)), (1, (-1, 2)), (3, (1, 2))])

    def test_a_chance_below_nought_that_makes_all_else_right(self):
        at = places(self.floors)
        for low, middle, high, k in [(0, 1, 3, 2), (1, 2, 4, 3)]:
            for chance in (Fraction(-1, 7), Fraction(-2)):
                aim = (at[k] - chance * at[middle]) / (1 - chance)
                part = (at[high] - aim) / (at[high] - at[low])
                chances = {low: (1 - chance) * part, middle: chance, high: (1 - chance) * (1 - part)}
                self.assertEqual(sum(chances.values()), 1)
                self.assertEqual(sum(share * at[place] for place, share in chances.items()), at[k])
                self.not_fair(0, k, told_lot(chances))

    def test_a_mean_that_is_not_the_place(self):
        self.not_fair(0, 2, [(1, (1, 1))])
        self.not_fair(0, 2, [(0, (1, 3)), (3, (2, 3))])
        # Right by the numbers of the flaps, but not by those of the places.
        self.not_fair(0, 2, [(1, (1, 2)), (3, (1, 2))])
        self.not_fair(0, 1, [(0, (1, 2)), (2, (1, 2))])
        self.not_fair(0, 2, [(0, (10 ** 399, 2 * 10 ** 399 - 1)), (3, (10 ** 399 - 1, 2 * 10 ** 399 - 1))])

    def test_a_place_beyond_a_bolted_flap(self):
        self.not_fair(1, 1, [(0, (2, 3)), (3, (1, 3))])
        self.not_fair(1, 3, [(1, (1, 5)), (4, (4, 5))])
        self.not_fair(1, 3, [(0, (1, 7)), (4, (6, 7))])
        self.not_fair(2, 2, [(0, (1, 2)), (3, (1, 2))])
        self.not_fair(2, 2, [(1, (4, 5)), (4, (1, 5))])

    def test_who_stands_at_a_bolted_flap_does_not_stay(self):
        self.not_fair(1, 2, [(0, (1, 2)), (3, (1, 2))])
        self.not_fair(1, 2, [(1, (3, 4)), (3, (1, 4))])
        self.not_fair(1, 2, [(0, (1, 4)), (2, (1, 2)), (3, (1, 4))])
        self.not_fair(2, 1, [(0, (1, 3)), (2, (2, 3))])
        self.not_fair(2, 3, [(2, (1, 4)), (4, (3, 4))])
        self.not_fair(1, 2, [(1, (1, 1))])

    def test_who_stands_at_an_end_does_not_stay(self):
        for number in range(3):
            self.not_fair(number, 0, [(1, (1, 1))])
            self.not_fair(number, 4, [(3, (1, 1))])
            self.not_fair(number, 0, [(0, (1, 2)), (1, (1, 2))])
            self.not_fair(number, 4, [(0, (1, 2)), (4, (1, 2))])

    def test_the_same_lots_are_fair_where_nothing_is_bolted(self):
        history, table = self.history(), staying(self.history())
        table[0] = [[(0, (1, 1))], [(0, (2, 3)), (3, (1, 3))], [(0, (1, 4)), (2, (1, 2)), (3, (1, 4))],
                    [(0, (1, 7)), (4, (6, 7))], [(4, (1, 1))]]
        for k in range(5):
            self.assertEqual(meant(price(history, table, k)), way_by_way(history, table, k))

    def test_the_first_lot_that_is_not_fair(self):
        history = self.history()
        for wrong in ([(0, 4), (1, 0)], [(1, 1), (1, 2)], [(0, 2), (0, 3), (2, 0)], [(2, 0), (2, 4)], [(1, 4), (2, 0)]):
            table = staying(history)
            for number, k in reversed(wrong):
                table[number][k] = [(k, (1, 2))]
            self.refused(NoTable, wrong[0], price, history, table, 2)

    def test_random_lots_where_they_are_not_fair(self):
        chance = Random(36)
        for history in every_size(36)[::2]:
            steps, table = history.steps(), some_table(chance, history)
            if not steps:
                continue
            number, k = chance.randrange(len(steps)), chance.randrange(len(history.floors()) + 1)
            others = [at for at in range(len(history.floors()) + 1) if at != k]
            table[number][k] = some_table(chance, history)[number][chance.choice(others)]
            self.refused(NoTable, (number, k), price, history, table, k)


class NoPlace(Refusing):
    def test_no_such_place(self):
        history = played([1, 1], None, [([], whole(1, 0))])
        for k in (-1, -2, 3, 4, 10 ** 400):
            self.refused(NoFlap, k, price, history, staying(history), k)
            self.refused(NoFlap, k, price, History([1, 1]), [], k)

    def test_tables_go_ahead_of_places(self):
        history = played([1, 1], None, [([], whole(1, 0))])
        table = staying(history)
        table[0][1] = []
        self.refused(NoTable, (0, 1), price, history, table, 3)
        self.refused(NoTable, None, price, history, [], -1)


class Reach(unittest.TestCase):
    def test_lots_up_to_the_next_bolted_flaps_are_fair(self):
        for history in every_size(37, most_tanks=6, most_steps=3):
            floors, table = history.floors(), staying(history)
            for number, (bolted, _) in enumerate(history.steps()):
                for k in range(len(floors) + 1):
                    first, last = reach(floors, bolted, k)
                    table[number][k] = two_place_lots(floors, bolted, k)[-1 if first < k < last else 0]
            for k in range(len(floors) + 1):
                self.assertEqual(meant(price(history, table, k)), reckoned(history, table, k))


if __name__ == "__main__":
    unittest.main()
