"""[12]: where a drop more, or a drop less, would end."""

import unittest
from math import gcd
from random import Random

from flapwater.drops import drop_less, drop_more
from flapwater.errors import NoDrop, NoStep, NoTank
from flapwater.histories import History
from flapwater.wanderers import best_table

from tests.lots import chance_beyond, reckoned, two_place_tables
from tests.made import (
    SMALL, all_left, every_size, many_histories, meant, played, shares_left, small_histories, whole)
from tests.refusing import Refusing


def drops(history):
    """Tuples (step, tank, whether rain falls there)."""
    return [(step, tank, amount != (0, 1)) for step, (_, rain) in enumerate(history.steps())
            for tank, amount in enumerate(rain, start=1)]


class Examples(unittest.TestCase):
    def test_level_water_spreads_a_drop_by_floors(self):
        history = played([1, 2, 1], None, [([], whole(8, 4, 0))])
        for tank in (1, 2, 3):
            self.assertEqual(drop_more(history, 0, tank), [(0, 1), (1, 4), (3, 4), (1, 1)])
        for tank in (1, 2):
            self.assertEqual(drop_less(history, 0, tank), [(0, 1), (1, 4), (3, 4), (1, 1)])

    def test_water_alike_high_without_coming_past_the_flap(self):
        history = played([1, 1], None, [([], whole(1, 1))])
        self.assertEqual(drop_more(history, 0, 1), [(0, 1), (1, 2), (1, 1)])
        self.assertEqual(drop_more(history, 0, 2), whole(0, 0, 1))
        self.assertEqual(drop_less(history, 0, 1), whole(0, 1, 1))
        self.assertEqual(drop_less(history, 0, 2), [(0, 1), (1, 2), (1, 1)])

    def test_water_alike_high_at_two_flaps(self):
        history = played([1, 2, 3], None, [([], whole(1, 2, 3))])
        self.assertEqual(drop_more(history, 0, 1), [(0, 1), (1, 6), (1, 2), (1, 1)])
        self.assertEqual(drop_more(history, 0, 2), [(0, 1), (0, 1), (2, 5), (1, 1)])
        self.assertEqual(drop_more(history, 0, 3), whole(0, 0, 0, 1))
        self.assertEqual(drop_less(history, 0, 1), whole(0, 1, 1, 1))
        self.assertEqual(drop_less(history, 0, 2), [(0, 1), (1, 3), (1, 1), (1, 1)])
        self.assertEqual(drop_less(history, 0, 3), [(0, 1), (1, 6), (1, 2), (1, 1)])

    def test_water_standing_lower_on_the_left_keeps_a_drop(self):
        history = played([1, 1], None, [([], whole(1, 2))])
        self.assertEqual(drop_more(history, 0, 1), whole(0, 1, 1))
        self.assertEqual(drop_more(history, 0, 2), whole(0, 0, 1))
        self.assertEqual(drop_less(history, 0, 1), whole(0, 1, 1))
        self.assertEqual(drop_less(history, 0, 2), whole(0, 0, 1))

    def test_bolted_flaps_keep_a_drop(self):
        for left, right in ((1, 1), (5, 1), (1, 5)):
            history = played([1, 1], None, [([1], whole(left, right))])
            self.assertEqual(drop_more(history, 0, 1), whole(0, 1, 1))
            self.assertEqual(drop_more(history, 0, 2), whole(0, 0, 1))
            self.assertEqual(drop_less(history, 0, 1), whole(0, 1, 1))
            self.assertEqual(drop_less(history, 0, 2), whole(0, 0, 1))

    def test_a_drop_goes_on_through_later_steps(self):
        history = played([1, 1], None, [([1], whole(4, 0)), ([], whole(0, 1))])
        for step in (0, 1):
            self.assertEqual(drop_more(history, step, 1), [(0, 1), (1, 2), (1, 1)])
            self.assertEqual(drop_more(history, step, 2), [(0, 1), (1, 2), (1, 1)])
        self.assertEqual(drop_less(history, 0, 1), [(0, 1), (1, 2), (1, 1)])
        history.step([1], whole(0, 7))
        self.assertEqual(drop_more(history, 2, 1), whole(0, 1, 1))
        self.assertEqual(drop_more(history, 0, 1), [(0, 1), (1, 2), (1, 1)])

    def test_a_drop_of_a_step_does_not_hang_on_the_steps_ahead(self):
        history = played([1, 1], None, [([], whole(4, 0)), ([1], whole(1, 0))])
        self.assertEqual(drop_more(history, 1, 1), whole(0, 1, 1))
        self.assertEqual(drop_more(history, 0, 1), [(0, 1), (1, 2), (1, 1)])

    def test_one_tank(self):
        history = played([7], None, [([], [(1, 60)]), ([], whole(0))])
        self.assertEqual(drop_more(history, 0, 1), whole(0, 1))
        self.assertEqual(drop_more(history, 1, 1), whole(0, 1))
        self.assertEqual(drop_less(history, 0, 1), whole(0, 1))

    def test_empty_tanks(self):
        history = played([1, 1, 1], None, [([], whole(0, 0, 0))])
        self.assertEqual(drop_more(history, 0, 1), [(0, 1), (1, 3), (2, 3), (1, 1)])
        self.assertEqual(drop_more(history, 0, 2), [(0, 1), (0, 1), (1, 2), (1, 1)])
        self.assertEqual(drop_more(history, 0, 3), whole(0, 0, 0, 1))

    def test_a_drop_less_where_however_little_falls(self):
        history = played([1, 1], whole(5, 1), [([], [(1, 10 ** 300), (1, 10 ** 399)])])
        self.assertEqual(drop_less(history, 0, 1), [(0, 1), (1, 2), (1, 1)])
        self.assertEqual(drop_less(history, 0, 2), [(0, 1), (1, 2), (1, 1)])

    def test_ties_in_two_steps(self):
        # The first drop's half that goes past the flap stays there; level again, the other half spreads once more.
        history = played([1, 1, 1], None, [([], whole(1, 1, 2)), ([], whole(1, 1, 0))])
        self.assertEqual(drop_more(history, 0, 1), [(0, 1), (1, 3), (2, 3), (1, 1)])
        self.assertEqual(drop_less(history, 0, 1), whole(0, 1, 1, 1))
        self.assertEqual(drop_less(history, 0, 2), [(0, 1), (1, 2), (1, 1), (1, 1)])


class SmallDrops(unittest.TestCase):
    def check(self, history, asked=None):
        for step, tank, rains in drops(history) if asked is None else asked:
            with self.subTest(floors=history.floors(), steps=history.steps(), step=step, tank=tank):
                more = drop_more(history, step, tank)
                self.assertEqual(more, shares_left(history, step, tank, SMALL))
                self.check_shape(more)
                if rains:
                    less = drop_less(history, step, tank)
                    self.assertEqual(less, shares_left(history, step, tank, -SMALL))
                    self.check_shape(less)

    def check_shape(self, shares):
        self.assertEqual((shares[0], shares[-1]), ((0, 1), (1, 1)))
        self.assertEqual(meant(shares), sorted(meant(shares)))
        self.assertIs(type(shares), list)
        for share in shares:
            self.assertIs(type(share), tuple)
            self.assertEqual([type(part) for part in share], [int, int])
            self.assertGreaterEqual(share[1], 1)
            self.assertEqual(gcd(*share), 1)

    def test_histories_of_every_size(self):
        chance = Random(61)
        for history in every_size(61):
            found = drops(history)
            self.check(history, chance.sample(found, min(len(found), 6)))

    def test_many_histories(self):
        for floors, water, steps in many_histories(60, seed=62):
            self.check(played(floors, water, steps))

    def test_small_histories_with_many_ties(self):
        for history in small_histories(63, 150, tanks=5, steps=3):
            self.check(history)

    def test_in_the_first_a_middle_and_the_last_step(self):
        for history in [each for each in every_size(64) if len(each.steps()) == 5]:
            self.check(history, [each for each in drops(history) if each[0] in (0, 2, 4)])

    def test_less_is_nowhere_below_more(self):
        # The greatest chance of those wanderers is no less than the least.
        for history in small_histories(65, 100, tanks=5, steps=3):
            for step, tank, rains in drops(history):
                if rains:
                    pairs = zip(meant(drop_more(history, step, tank)), meant(drop_less(history, step, tank)))
                    self.assertTrue(all(least <= most for least, most in pairs))


class Chances(unittest.TestCase):
    def test_least_and_greatest_chance_over_all_that_pay_least(self):
        for history in small_histories(66, 40):
            floors, left = history.floors(), all_left(history)
            tables = list(two_place_tables(history))
            for k in range(len(floors) + 1):
                best = [table for table in tables if reckoned(history, table, k) == left[k]]
                for step, tank, rains in drops(history):
                    chances = [chance_beyond(table, step, k, tank) for table in best]
                    self.assertEqual(meant(drop_more(history, step, tank)[k]), min(chances))
                    if rains:
                        self.assertEqual(meant(drop_less(history, step, tank)[k]), max(chances))

    def test_the_best_table_lies_between(self):
        for history in every_size(67)[::4]:
            table = best_table(history)
            for step, tank, rains in drops(history)[::3]:
                chances = [chance_beyond(table, step, k, tank) for k in range(len(history.floors()) + 1)]
                self.assertTrue(all(a <= b for a, b in zip(meant(drop_more(history, step, tank)), chances)))
                if rains:
                    self.assertTrue(all(a >= b for a, b in zip(meant(drop_less(history, step, tank)), chances)))


class Refused(Refusing):
    def history(self):
        return played([1, 2, 1], None, [([], whole(1, 0, 2)), ([2], whole(0, 0, 3))])

    def test_no_such_step(self):
        for asked in (drop_more, drop_less):
            for step in (-1, -2, 2, 3, 10 ** 400):
                for tank in (1, 0, 4):
                    self.refused(NoStep, step, asked, self.history(), step, tank)
            self.refused(NoStep, 0, asked, History([1, 1]), 0, 1)
            self.refused(NoStep, -1, asked, History([1, 1]), -1, 1)

    def test_no_such_tank(self):
        for asked in (drop_more, drop_less):
            for tank in (0, 4, -1, -3, 10 ** 400):
                for step in (0, 1):
                    self.refused(NoTank, tank, asked, self.history(), step, tank)

    def test_no_rain_there(self):
        for step, tank in ((0, 2), (1, 1), (1, 2)):
            self.refused(NoDrop, None, drop_less, self.history(), step, tank)
            drop_more(self.history(), step, tank)
        for step, tank in ((0, 1), (0, 3), (1, 3)):
            drop_less(self.history(), step, tank)

    def test_no_rain_in_a_tank_with_water(self):
        self.refused(NoDrop, None, drop_less, played([1, 1], whole(5, 5), [([], whole(0, 1))]), 0, 1)

    def test_behind_an_undone_step(self):
        history = self.history()
        history.undo()
        self.refused(NoStep, 1, drop_more, history, 1, 1)
        self.assertEqual(drop_more(history, 0, 3), drop_more(played([1, 2, 1], None, [([], whole(1, 0, 2))]), 0, 3))


if __name__ == "__main__":
    unittest.main()
