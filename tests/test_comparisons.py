"""[15]: what is left now, beside other histories."""

import unittest
from fractions import Fraction
from random import Random

from tests.made import (
    all_left, many_histories, meant, parted, played, some_amount, some_steps, some_water, times, together, told)


def with_more(chance, amounts):
    """The amounts with more in one tank."""
    more = meant(amounts)
    more[chance.randrange(len(more))] += some_amount(chance) + Fraction(1, 7)
    return told(more)


class NoLess(unittest.TestCase):
    def at_least(self, more, less):
        self.assertTrue(all(high >= low for high, low in zip(all_left(more), all_left(less))))

    def test_more_rain_anywhere(self):
        chance = Random(21)
        for floors, water, steps in many_histories(200, seed=21):
            for number, (bolted, rain) in enumerate(steps):
                wetter = list(steps)
                wetter[number] = (bolted, with_more(chance, rain))
                self.at_least(played(floors, water, wetter), played(floors, water, steps))

    def test_more_water_at_first(self):
        chance = Random(22)
        for floors, water, steps in many_histories(200, seed=22):
            self.at_least(played(floors, with_more(chance, water), steps), played(floors, water, steps))
            self.at_least(played(floors, water, steps), played(floors, None, steps))

    def test_one_flap_more_bolted(self):
        chance = Random(23)
        for floors, water, steps in many_histories(200, seed=23):
            for number, (bolted, rain) in enumerate(steps):
                free = [flap for flap in range(1, len(floors)) if flap not in bolted]
                if free:
                    tighter = list(steps)
                    tighter[number] = (bolted + [chance.choice(free)], rain)
                    self.at_least(played(floors, water, tighter), played(floors, water, steps))

    def test_two_steps_with_the_same_bolts_made_one(self):
        chance = Random(24)
        for floors, water, steps in many_histories(200, seed=24):
            for number, (bolted, rain) in enumerate(steps):
                more = some_water(chance, floors)
                two = steps[:number] + [(bolted, rain), (bolted, more)] + steps[number + 1:]
                one = steps[:number] + [(bolted, together(rain, more))] + steps[number + 1:]
                self.at_least(played(floors, water, one), played(floors, water, two))

    def test_two_histories_put_together(self):
        chance = Random(25)
        for floors, water, steps in many_histories(200, seed=25):
            other_water = some_water(chance, floors)
            others = [(bolted, some_water(chance, floors)) for bolted, _ in steps]
            both = [(bolted, together(rain, more)) for (bolted, rain), (_, more) in zip(steps, others)]
            of_both = all_left(played(floors, together(water, other_water), both))
            of_one = all_left(played(floors, water, steps))
            of_other = all_left(played(floors, other_water, others))
            self.assertTrue(all(high >= a + b for high, a, b in zip(of_both, of_one, of_other)))


class JustSo(unittest.TestCase):
    def test_all_amounts_so_many_times(self):
        for floors, water, steps in many_histories(100, seed=26):
            left = all_left(played(floors, water, steps))
            for many in (0, 1, 2, 7, Fraction(1, 3), Fraction(59, 60)):
                multiplied = [(bolted, times(rain, many)) for bolted, rain in steps]
                self.assertEqual(all_left(played(floors, times(water, many), multiplied)),
                                 [amount * many for amount in left])

    def test_a_tank_parted_in_two(self):
        chance = Random(27)
        for _ in range(150):
            floors = [chance.randint(1, 9) for _ in range(chance.randint(1, 7))]
            tank = chance.randrange(len(floors))
            floors[tank] = chance.randint(2, 9)
            water, steps = some_water(chance, floors), some_steps(chance, floors)
            part = chance.randint(1, floors[tank] - 1)
            two_floors = floors[:tank] + [part, floors[tank] - part] + floors[tank + 1:]
            two_steps = [([flap + (flap > tank) for flap in bolted], parted(rain, tank, part, floors[tank]))
                         for bolted, rain in steps]
            left = all_left(played(two_floors, parted(water, tank, part, floors[tank]), two_steps))
            del left[tank + 1]
            self.assertEqual(left, all_left(played(floors, water, steps)))

    def test_by_hand(self):
        self.assertEqual(all_left(played([2, 1], [(6, 1), (0, 1)], [([], [(0, 1), (0, 1)])])), [0, 4, 6])
        self.assertEqual(all_left(played([1, 1, 1], [(3, 1), (3, 1), (0, 1)], [([], [(0, 1)] * 3)])), [0, 2, 4, 6])


if __name__ == "__main__":
    unittest.main()
