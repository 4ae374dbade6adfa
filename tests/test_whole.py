"""[1], [4] and [15] over the whole program, of histories read from texts and of rains in their orders."""

import unittest
from fractions import Fraction
from random import Random

from flapwater.drops import drop_less, drop_more
from flapwater.histories import History
from flapwater.orders import behind, bounds
from flapwater.papers import best_rows, shows
from flapwater.readings import read_history
from flapwater.tanks import settled
from flapwater.texts import show_history
from flapwater.wanderers import best_table, price

from tests.lots import some_table
from tests.made import (
    SMALL, all_left, every_size, let_by, many_histories, meant, parted, played, shares_left, some_amount, some_bolted,
    some_floors, some_water, sums, times, together, told)
from tests.rains import all_orders, as_rain, at_once, each_alone, in_order, some_rains


def prices(history, table):
    return [meant(price(history, table, k)) for k in range(len(history.floors()) + 1)]


def read_back(histories):
    return [read_history(show_history(history)) for history in histories]


def bounds_meant(floors, rains):
    least, most = bounds(floors, rains)
    return meant(least), meant(most)


def many_rains(many, seed, most=10):
    """Tuples (floors, rains)."""
    chance = Random(seed)
    found = []
    for _ in range(many):
        floors = some_floors(chance)
        found.append((floors, some_rains(chance, len(floors), chance.randint(0, most))))
    return found


class Placewise(unittest.TestCase):
    def assert_none_less(self, more, less):
        self.assertTrue(all(high >= low for high, low in zip(more, less)))


class Whole(Placewise):
    """[4], sentence by sentence."""

    def test_water_comes_to_rest_in_one_way(self):
        chance = Random(131)
        for floors, water, steps in many_histories(60, seed=131):
            history = History(floors, water)
            for bolted, rain in steps:
                fallen = together(history.water(), rain)
                history.step(bolted, rain)
                for many in (1, 4, 12):
                    later = History(floors, let_by(chance, floors, fallen, bolted, many))
                    later.step(bolted, [(0, 1)] * len(floors))
                    self.assertEqual(later.water(), history.water())

    def test_what_is_left_is_the_least_that_a_fair_wanderer_pays(self):
        chance = Random(132)
        for history in read_back(every_size(132)):
            left = all_left(history)
            self.assertEqual(prices(history, best_table(history)), left)
            self.assert_none_less(prices(history, some_table(chance, history)), left)

    def test_without_steps_what_stood_at_first_is_paid(self):
        for floors, water, _ in many_histories(30, seed=133):
            history = read_history(show_history(History(floors, water)))
            self.assertEqual(prices(history, []), sums(meant(water)))
            self.assertEqual(prices(history, best_table(history)), all_left(history))

    def test_any_rows_that_are_shaped_as_told_show_that_no_less_stands(self):
        chance = Random(134)
        for history in read_back(every_size(134)):
            part = Fraction(chance.randint(0, 5), 5)
            steps = [(bolted, times(rain, part)) for bolted, rain in history.steps()]
            rows = best_rows(played(history.floors(), times(history.water(0), part), steps))
            self.assertIs(shows(history, rows), True)
            self.assert_none_less(all_left(history), meant(rows[-1]))

    def test_told_are_a_table_and_rows_that_meet(self):
        for history in read_back(every_size(135)):
            rows = best_rows(history)
            self.assertIs(shows(history, rows), True)
            self.assertEqual(meant(rows[-1]), prices(history, best_table(history)))

    def test_a_drop_more_and_a_drop_less_have_told_ends(self):
        chance = Random(136)
        for history in read_back(every_size(136)[::2]):
            for step, (_, rain) in list(enumerate(history.steps()))[::3]:
                tank = chance.randint(1, len(rain))
                self.assertEqual(drop_more(history, step, tank), shares_left(history, step, tank, SMALL))
                if rain[tank - 1] != (0, 1):
                    self.assertEqual(drop_less(history, step, tank), shares_left(history, step, tank, -SMALL))

    def test_least_from_left_to_right_and_most_from_right_to_left_at_every_flap_at_once(self):
        chance = Random(137)
        for _ in range(40):
            floors = some_floors(chance, most=5)
            rains = sorted(some_rains(chance, len(floors), chance.randint(0, 4)), key=lambda rain: rain[0])
            numbers = list(range(len(rains)))
            least, most = bounds_meant(floors, rains)
            self.assertEqual(all_left(in_order(floors, rains, numbers)), least)
            self.assertEqual(all_left(in_order(floors, rains, numbers[::-1])), most)
            for order in all_orders(rains):
                left = all_left(in_order(floors, rains, order))
                self.assert_none_less(left, least)
                self.assert_none_less(most, left)

    def test_as_if_each_fell_alone_and_as_if_all_fell_at_once(self):
        for floors, rains in many_rains(80, seed=138):
            alone = [all_left(played(floors, None, [([], as_rain(len(floors), tank, amount))]))
                     for tank, amount in rains]
            least, most = bounds_meant(floors, rains)
            self.assertEqual(least, [sum(left[k] for left in alone) for k in range(len(floors) + 1)])
            self.assertEqual(least, each_alone(floors, rains))
            self.assertEqual(most, sums(meant(settled(floors, at_once(floors, rains)))))

    def test_a_wanderer_back_through_rains_in_an_order_pays_between_the_bounds(self):
        chance = Random(139)
        for floors, rains in many_rains(60, seed=139, most=5):
            least, most = bounds_meant(floors, rains)
            history = in_order(floors, rains, chance.sample(range(len(rains)), len(rains)))
            paid = prices(history, best_table(history))
            self.assert_none_less(paid, least)
            self.assert_none_less(most, paid)
            self.assert_none_less(prices(history, some_table(chance, history)), least)


class Histories(Placewise):
    """[15], sentence by sentence, on texts."""

    def left(self, floors, water, steps):
        """What is left of each place, the same where the History is written and read back."""
        history = played(floors, water, steps)
        found = read_history(show_history(history))
        self.assertEqual(all_left(found), all_left(history))
        return all_left(found)

    def test_more_rain_more_water_at_first_or_one_flap_more_bolted(self):
        chance = Random(141)
        for floors, water, steps in [each for each in many_histories(120, seed=141) if each[2]]:
            left = self.left(floors, water, steps)
            number = chance.randrange(len(steps))
            bolted, rain = steps[number]
            tank = chance.randint(1, len(floors))
            drop = as_rain(len(floors), tank, told(some_amount(chance)))
            wetter = steps[:number] + [(bolted, together(rain, drop))] + steps[number + 1:]
            self.assert_none_less(self.left(floors, water, wetter), left)
            self.assert_none_less(self.left(floors, together(water, drop), steps), left)
            for flap in set(range(1, len(floors))) - set(bolted):
                tighter = steps[:number] + [(bolted + [flap], rain)] + steps[number + 1:]
                self.assert_none_less(self.left(floors, water, tighter), left)

    def test_two_steps_with_the_same_bolts_made_one(self):
        chance = Random(142)
        for floors, water, steps in many_histories(80, seed=142):
            bolted = some_bolted(chance, floors)
            rain, more = some_water(chance, floors), some_water(chance, floors)
            for ahead, later in ((steps, []), ([], steps)):
                one = self.left(floors, water, ahead + [(bolted, together(rain, more))] + later)
                self.assert_none_less(one, self.left(floors, water, ahead + [(bolted, rain), (bolted, more)] + later))

    def test_two_histories_put_together(self):
        chance = Random(143)
        for floors, water, steps in many_histories(80, seed=143):
            other_water = some_water(chance, floors)
            others = [(bolted, some_water(chance, floors)) for bolted, _ in steps]
            both = [(bolted, together(rain, more)) for (bolted, rain), (_, more) in zip(steps, others)]
            apart = zip(self.left(floors, water, steps), self.left(floors, other_water, others))
            self.assert_none_less(self.left(floors, together(water, other_water), both), [a + b for a, b in apart])

    def test_all_amounts_so_many_times(self):
        for floors, water, steps in many_histories(60, seed=144):
            for many in (0, 2, Fraction(5, 12)):
                left = self.left(floors, times(water, many), [(bolted, times(rain, many)) for bolted, rain in steps])
                self.assertEqual(left, [many * amount for amount in self.left(floors, water, steps)])

    def test_a_tank_parted_in_two(self):
        chance = Random(145)
        for floors, water, steps in many_histories(80, seed=145):
            tank = chance.randrange(len(floors))
            if floors[tank] > 1:
                floor = floors[tank]
                part = chance.randint(1, floor - 1)
                two_floors = floors[:tank] + [part, floor - part] + floors[tank + 1:]
                two_steps = [([flap + (flap > tank) for flap in bolted], parted(rain, tank, part, floor))
                             for bolted, rain in steps]
                left = self.left(two_floors, parted(water, tank, part, floor), two_steps)
                del left[tank + 1]
                self.assertEqual(left, self.left(floors, water, steps))


class Rains(Placewise):
    """[15] of rains into single tanks: what holds of each order holds of the bounds."""

    def test_more_rain_anywhere(self):
        chance = Random(151)
        for floors, rains in many_rains(60, seed=151):
            more = rains + some_rains(chance, len(floors), 1)
            for wetter, left in zip(bounds_meant(floors, more), bounds_meant(floors, rains)):
                self.assert_none_less(wetter, left)
            order = chance.sample(range(len(rains)), len(rains))
            for at in range(len(order) + 1):
                later = behind(floors, more, order[:at] + [len(rains)] + order[at:])
                self.assert_none_less(sums(meant(later)), sums(meant(behind(floors, rains, order))))

    def test_two_histories_put_together(self):
        chance = Random(152)
        for floors, rains in many_rains(60, seed=152):
            others = some_rains(chance, len(floors), 4)
            (low, high), (other_low, other_high) = bounds_meant(floors, rains), bounds_meant(floors, others)
            least, most = bounds_meant(floors, rains + others)
            self.assertEqual(least, [a + b for a, b in zip(low, other_low)])
            self.assert_none_less(most, [a + b for a, b in zip(high, other_high)])

    def test_all_amounts_so_many_times(self):
        for floors, rains in many_rains(60, seed=153):
            for many in (2, Fraction(5, 12)):
                multiplied = [(tank, told(meant(amount) * many)) for tank, amount in rains]
                for found, left in zip(bounds_meant(floors, multiplied), bounds_meant(floors, rains)):
                    self.assertEqual(found, [many * amount for amount in left])

    def test_an_empty_tank_parted_in_two(self):
        chance = Random(154)
        for floors, rains in many_rains(80, seed=154):
            tank, floor = chance.randint(0, len(floors)), chance.randint(2, 9)
            one, two = list(floors), list(floors)
            one[tank:tank], two[tank:tank] = [floor], [1, floor - 1]
            later = [(at + (at > tank), amount) for at, amount in rains]
            latest = [(at + 2 * (at > tank), amount) for at, amount in rains]
            for left, parted_left in zip(bounds_meant(one, later), bounds_meant(two, latest)):
                del parted_left[tank + 1]
                self.assertEqual(parted_left, left)


if __name__ == "__main__":
    unittest.main()
