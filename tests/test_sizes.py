"""Sizes up to those of [2], and somewhat beyond: none is refused, and all stay exact."""

import unittest
from random import Random

from flapwater.drops import drop_less, drop_more
from flapwater.histories import History
from flapwater.orders import behind, bounds
from flapwater.papers import best_rows, shows
from flapwater.readings import read_fraction, read_history, read_water
from flapwater.tanks import heaped, places, settled
from flapwater.texts import show_fraction, show_history, show_water
from flapwater.wanderers import best_table, price

from tests.lots import reckoned, some_table
from tests.made import all_left, greatest_settled, meant, played, sums, told, whole
from tests.rains import at_once, each_alone, in_order


def large_water(chance, tanks, top=10 ** 12 - 1, bottom=60):
    return [told(meant((chance.randint(top // 2, top), chance.randint(1, bottom)))) for _ in range(tanks)]


def check_steps(case, chance, tanks, steps, top, bottom):
    floors = [chance.randint(1, 9) for _ in range(tanks)]
    now = large_water(chance, tanks, top, bottom)
    history = History(floors, now)
    for number in range(1, steps + 1):
        bolted = [flap for flap in range(1, tanks) if chance.random() < 0.3]
        rain = large_water(chance, tanks, top, bottom)
        history.step(bolted, rain)
        fallen = [told(a + b) for a, b in zip(meant(now), meant(rain))]
        now = greatest_settled(floors, fallen, bolted)
        case.assertEqual(history.water(number), now)
    case.assertEqual([history.left(k) for k in range(tanks + 1)], told(sums(meant(now))))
    for _ in range(steps):
        history.undo()
    case.assertEqual(history.steps(), [])


def large_history(chance, tanks, steps, top=10 ** 12 - 1, bottom=60):
    floors = [chance.randint(1, 9) for _ in range(tanks)]
    played_steps = [([flap for flap in range(1, tanks) if chance.random() < 0.2],
                     large_water(chance, tanks, top, bottom)) for _ in range(steps)]
    return played(floors, large_water(chance, tanks, top, bottom), played_steps)


def check_both_sides(case, history):
    """A table and rows that meet, and drops of the shape that is told."""
    table, rows, left = best_table(history), best_rows(history), all_left(history)
    case.assertEqual([meant(price(history, table, k)) for k in range(len(left))], left)
    case.assertIs(shows(history, rows), True)
    case.assertEqual(meant(rows[-1]), left)
    for asked in (drop_more, drop_less):
        for step in (0, len(rows) - 2):
            shares = meant(asked(history, step, len(left) // 2))
            case.assertEqual((shares[0], shares[-1]), (0, 1))
            case.assertEqual(shares, sorted(shares))


def check_orders(case, chance, tanks, many, top=10 ** 12 - 1, bottom=60):
    floors = [chance.randint(1, 9) for _ in range(tanks)]
    rains = [(chance.randint(1, tanks), amount) for amount in large_water(chance, many, top, bottom)]
    least, most = bounds(floors, rains)
    case.assertEqual(meant(least), each_alone(floors, rains))
    case.assertEqual(meant(most), sums(meant(greatest_settled(floors, at_once(floors, rains), []))))
    order = chance.sample(range(many), many)
    case.assertEqual(behind(floors, rains, order), in_order(floors, rains, order).water())


def check_texts(case, history):
    """The History and its water, first and now, written and read back."""
    found = read_history(show_history(history))
    case.assertEqual(found, history)
    case.assertEqual(found.water(), history.water())
    for water in (history.water(0), history.water()):
        case.assertEqual(read_water(show_water(water)), water)
        case.assertEqual([read_fraction(show_fraction(amount)) for amount in water], water)


class Sizes(unittest.TestCase):
    def test_up_to_the_told_sizes(self):
        for seed in range(10):
            check_steps(self, Random(seed), 8, 10, 10 ** 12 - 1, 60)

    def test_somewhat_beyond(self):
        for seed in range(3):
            check_steps(self, Random(seed), 12, 15, 10 ** 15, 100)

    def test_fractions_of_four_hundred_figures(self):
        most, bottom = 10 ** 400 - 1, 10 ** 399 + 7
        water = [told(meant((most, bottom))), told(meant((1, bottom))), (0, 1)]
        self.assertEqual(settled([1, 2, 3], water), greatest_settled([1, 2, 3], water, []))
        self.assertEqual(heaped([1, 2, 3], water), told(sums(meant(water))))

    def test_wanderers_papers_and_drops_up_to_the_told_sizes(self):
        for seed in range(3):
            check_both_sides(self, large_history(Random(seed), 8, 10))

    def test_wanderers_papers_and_drops_somewhat_beyond(self):
        check_both_sides(self, large_history(Random(5), 12, 15, 10 ** 15, 100))
        check_both_sides(self, large_history(Random(6), 30, 3))

    def test_wanderers_papers_and_drops_of_four_hundred_figures(self):
        check_both_sides(self, large_history(Random(7), 4, 3, 10 ** 400 - 1, 10 ** 400 - 1))

    def test_the_largest_table_with_chances_of_four_hundred_figures(self):
        chance = Random(8)
        history = large_history(chance, 8, 10)
        table = some_table(chance, history, 400)
        self.assertGreater(len({bottom for lots in table for lot in lots for _, (_, bottom) in lot}), 40)
        for k, least in enumerate(all_left(history)):
            self.assertGreaterEqual(meant(price(history, table, k)), least)

    def test_tables_with_chances_of_four_hundred_figures_are_reckoned_alike(self):
        chance = Random(9)
        history = large_history(chance, 5, 4)
        table = some_table(chance, history, 400)
        for k in range(6):
            self.assertEqual(meant(price(history, table, k)), reckoned(history, table, k))

    def test_orders_up_to_the_told_sizes(self):
        for seed in range(10):
            check_orders(self, Random(seed), 8, 10)

    def test_orders_somewhat_beyond(self):
        check_orders(self, Random(10), 12, 20, 10 ** 15, 100)
        check_orders(self, Random(11), 30, 40)
        check_orders(self, Random(12), 4, 5, 10 ** 400 - 1, 10 ** 400 - 1)

    def test_texts_up_to_the_told_sizes_and_somewhat_beyond(self):
        for seed in range(5):
            check_texts(self, large_history(Random(seed), 8, 10))
        check_texts(self, large_history(Random(13), 12, 14, 10 ** 15, 100))
        check_texts(self, large_history(Random(14), 40, 20, 1000, 2))

    def test_texts_with_fractions_of_four_hundred_figures(self):
        history = History([10 ** 400 - 1, 1], [told(meant((10 ** 400 - 1, 10 ** 399))), (0, 1)])
        history.step([1], [(1, 10 ** 399), (10 ** 400 - 1, 7)])
        found = read_history(show_history(history))
        self.assertEqual(found, history)
        self.assertEqual(found.water(), history.water())

    def test_long_rows_with_large_floors(self):
        self.assertEqual(places(list(range(1, 41)))[-1], 820)
        self.assertEqual(settled([1] * 40, whole(*range(40, 0, -1))), [(41, 2)] * 40)
        self.assertEqual(settled([10 ** 6, 1], whole(10 ** 6 + 1, 0)), whole(10 ** 6, 1))


if __name__ == "__main__":
    unittest.main()
