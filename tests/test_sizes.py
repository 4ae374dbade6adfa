"""Sizes up to those of [2], and somewhat beyond: none is refused, and all stay exact."""

import unittest
from random import Random

from flapwater.histories import History
from flapwater.tanks import heaped, places, settled

from tests.made import greatest_settled, meant, sums, told, whole


def large_water(chance, tanks, top=10 ** 12 - 1, bottom=60):
    return [told(meant((chance.randint(top // 2, top), chance.randint(1, bottom)))) for _ in range(tanks)]


def check_steps(case, chance, tanks, steps, top, bottom):
    floors = [chance.randint(1, 9) for _ in range(tanks)]
    now = large_water(chance, tanks, top, bottom)
    history = History(floors, now)
    for number in range(1, steps + 1):
        bolted = [flap for flap in range(1, tanks) if chance.random() < 0.3]
        rain = large_water(chance, tanks, top, bottom)
        history.step(bolted, rain)
        fallen = [told(a + b) for a, b in zip(meant(now), meant(rain))]
        now = greatest_settled(floors, fallen, bolted)
        case.assertEqual(history.water(number), now)
    case.assertEqual([history.left(k) for k in range(tanks + 1)], told(sums(meant(now))))
    for _ in range(steps):
        history.undo()
    case.assertEqual(history.steps(), [])


class Sizes(unittest.TestCase):
    def test_up_to_the_told_sizes(self):
        for seed in range(10):
            check_steps(self, Random(seed), 8, 10, 10 ** 12 - 1, 60)

    def test_somewhat_beyond(self):
        for seed in range(3):
            check_steps(self, Random(seed), 12, 15, 10 ** 15, 100)

    def test_fractions_of_four_hundred_figures(self):
        most, bottom = 10 ** 400 - 1, 10 ** 399 + 7
        water = [told(meant((most, bottom))), told(meant((1, bottom))), (0, 1)]
        self.assertEqual(settled([1, 2, 3], water), greatest_settled([1, 2, 3], water, []))
        self.assertEqual(heaped([1, 2, 3], water), told(sums(meant(water))))

    def test_long_rows_with_large_floors(self):
        self.assertEqual(places(list(range(1, 41)))[-1], 820)
        self.assertEqual(settled([1] * 40, whole(*range(40, 0, -1))), [(41, 2)] * 40)
        self.assertEqual(settled([10 ** 6, 1], whole(10 ** 6 + 1, 0)), whole(10 ** 6, 1))


if __name__ == "__main__":
    unittest.main()
