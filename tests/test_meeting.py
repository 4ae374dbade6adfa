"""[1], [4] and [15] of wanderers and papers: any table and any rows stand on both sides of what is left now."""

import unittest
from fractions import Fraction
from random import Random

from flapwater.papers import best_rows, shows
from flapwater.wanderers import best_table, price

from tests.lots import some_table
from tests.made import (
    all_left, every_size, many_histories, meant, played, small_histories, some_water, times, together)


def prices(history, table):
    return [meant(price(history, table, k)) for k in range(len(history.floors()) + 1)]


def with_other_water(chance, history):
    """Another History of that row, with the same bolts, and both put together."""
    floors = history.floors()
    water = some_water(chance, floors)
    steps = [(bolted, some_water(chance, floors)) for bolted, _ in history.steps()]
    both = [(bolted, together(rain, more)) for (bolted, rain), (_, more) in zip(history.steps(), steps)]
    return played(floors, water, steps), played(floors, together(history.water(0), water), both)


class Meeting(unittest.TestCase):
    def test_told_are_a_table_and_rows_that_meet(self):
        for history in every_size(71):
            rows = best_rows(history)
            self.assertIs(shows(history, rows), True)
            self.assertEqual(prices(history, best_table(history)), meant(rows[-1]))
            self.assertEqual(meant(rows[-1]), all_left(history))

    def test_any_table_and_any_rows_that_show(self):
        # Rows of less rain show of more rain, too; tables hang on the bolts alone.
        chance = Random(72)
        for floors, water, steps in many_histories(150, seed=72):
            history = played(floors, water, steps)
            part = Fraction(chance.randint(0, 6), 6)
            less = played(floors, times(water, part), [(bolted, times(rain, part)) for bolted, rain in steps])
            rows = best_rows(less)
            self.assertIs(shows(history, rows), True)
            pairs = zip(meant(rows[-1]), all_left(history), prices(history, some_table(chance, history)))
            self.assertTrue(all(low <= left <= high for low, left, high in pairs))


class OtherHistories(unittest.TestCase):
    def test_a_table_pays_for_two_histories_put_together_what_it_pays_for_both(self):
        chance = Random(73)
        for history in every_size(73)[::3]:
            other, both = with_other_water(chance, history)
            table = best_table(both)
            of_both = prices(both, table)
            self.assertEqual(of_both, [a + b for a, b in zip(prices(history, table), prices(other, table))])
            self.assertTrue(all(low <= high for low, high in zip(all_left(history), prices(history, table))))

    def test_all_amounts_so_many_times_pay_so_many_times(self):
        chance = Random(74)
        for floors, water, steps in many_histories(40, seed=74):
            history = played(floors, water, steps)
            table = some_table(chance, history)
            for many in (0, 3, Fraction(7, 60)):
                others = [(bolted, times(rain, many)) for bolted, rain in steps]
                found = prices(played(floors, times(water, many), others), table)
                self.assertEqual(found, [many * paid for paid in prices(history, table)])

    def test_a_table_of_more_bolts_is_one_of_fewer(self):
        for history in small_histories(75, 80, tanks=5, steps=3):
            for number, (bolted, _) in enumerate(history.steps()):
                steps = history.steps()
                free = [flap for flap in range(1, len(history.floors())) if flap not in bolted]
                for flap in free:
                    steps[number] = (bolted + [flap], steps[number][1])
                    tighter = played(history.floors(), history.water(0), steps)
                    table = best_table(tighter)
                    self.assertEqual(prices(history, table), all_left(tighter))


if __name__ == "__main__":
    unittest.main()
