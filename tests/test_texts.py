"""[14], writing: a fraction, water and a History as texts."""

import unittest
from fractions import Fraction
from random import Random

from flapwater.histories import History
from flapwater.texts import show_fraction, show_history, show_water

from tests.made import every_size, many_histories, meant, played, some_amount, told, whole
from tests.written import written_history


def words(amounts):
    """The amounts as Python itself writes a Fraction: TOP/BOTTOM, or TOP alone."""
    return [str(Fraction(*amount)) for amount in amounts]


class Fractions(unittest.TestCase):
    def test_top_and_bottom(self):
        self.assertEqual(show_fraction((1, 2)), "1/2")
        self.assertEqual(show_fraction((7, 3)), "7/3")
        self.assertEqual(show_fraction((10 ** 12 - 1, 60)), "999999999999/60")

    def test_top_alone(self):
        self.assertEqual(show_fraction((0, 1)), "0")
        self.assertEqual(show_fraction((1, 1)), "1")
        self.assertEqual(show_fraction((120, 1)), "120")

    def test_below_nought(self):
        self.assertEqual(show_fraction((-1, 1)), "-1")
        self.assertEqual(show_fraction((-7, 30)), "-7/30")
        self.assertEqual(show_fraction((-120, 1)), "-120")

    def test_four_hundred_figures_and_somewhat_more(self):
        for figures in (400, 401, 900):
            top, bottom = 10 ** figures - 1, 10 ** (figures - 1)
            self.assertEqual(show_fraction((top, bottom)), "9" * figures + "/1" + "0" * (figures - 1))
            self.assertEqual(show_fraction((-top, 1)), "-" + "9" * figures)
            self.assertEqual(show_fraction((-1, bottom)), "-1/1" + "0" * (figures - 1))

    def test_many(self):
        chance = Random(101)
        for _ in range(500):
            amount = some_amount(chance) * chance.choice((1, -1))
            self.assertEqual(show_fraction(told(amount)), str(amount))


class Water(unittest.TestCase):
    def test_blanks_between(self):
        self.assertEqual(show_water([(1, 2), (0, 1), (3, 1)]), "1/2 0 3")
        self.assertEqual(show_water([(0, 1)]), "0")
        self.assertEqual(show_water(whole(0, 0, 12)), "0 0 12")

    def test_many(self):
        for floors, water, _ in many_histories(100, seed=102):
            self.assertEqual(show_water(water), " ".join(words(water)))


class Histories(unittest.TestCase):
    def test_without_steps(self):
        self.assertEqual(show_history(History([3])), "3 | 0")
        self.assertEqual(show_history(History([2, 1, 3])), "2 1 3 | 0 0 0")
        self.assertEqual(show_history(History([2, 10], [(1, 2), (40, 1)])), "2 10 | 1/2 40")

    def test_steps(self):
        history = played([2, 1, 3], whole(4, 1, 0), [([1], [(1, 2), (0, 1), (3, 1)])])
        self.assertEqual(show_history(history), "2 1 3 | 4 1 0 | 1 : 1/2 0 3")
        history.step([], whole(0, 0, 7))
        self.assertEqual(show_history(history), "2 1 3 | 4 1 0 | 1 : 1/2 0 3 | - : 0 0 7")
        history.step([2, 1], whole(0, 0, 0))
        self.assertEqual(show_history(history), "2 1 3 | 4 1 0 | 1 : 1/2 0 3 | - : 0 0 7 | 1 2 : 0 0 0")
        history.undo()
        self.assertEqual(show_history(history), "2 1 3 | 4 1 0 | 1 : 1/2 0 3 | - : 0 0 7")

    def test_bolted_flaps_rising_whatever_their_order_was(self):
        for bolted in ([1, 5, 10, 11], [11, 10, 5, 1], [10, 1, 11, 5]):
            history = played([1] * 12, None, [(bolted, whole(*[0] * 12))])
            self.assertEqual(show_history(history), f"{'1 ' * 12}| {'0 ' * 12}| 1 5 10 11 : {'0 ' * 12}"[:-1])

    def test_one_tank_has_no_flaps(self):
        self.assertEqual(show_history(played([7], None, [([], whole(1)), ([], whole(0))])), "7 | 0 | - : 1 | - : 0")

    def test_the_water_at_first_as_it_was_handed_in(self):
        history = History([1, 1], whole(9, 3))
        history.step([], whole(0, 0))
        self.assertEqual(history.water(), whole(6, 6))
        self.assertEqual(show_history(history), "1 1 | 9 3 | - : 0 0")

    def test_left_out_water_is_written_as_noughts(self):
        self.assertEqual(show_history(History([1, 2])), show_history(History([1, 2], whole(0, 0))))

    def test_every_size(self):
        for history in every_size(103):
            steps = [(bolted, words(rain)) for bolted, rain in history.steps()]
            expected = written_history(history.floors(), words(history.water(0)), steps)
            self.assertEqual(show_history(history), expected)

    def test_as_many_parts_as_floors_water_and_steps(self):
        for history in every_size(104)[::7]:
            parts = show_history(history).split(" | ")
            self.assertEqual(len(parts), 2 + len(history.steps()))
            self.assertTrue(all(part.count(" : ") == 1 for part in parts[2:]))

    def test_large_numbers(self):
        floors, amount = [10 ** 399, 1], (10 ** 400 - 1, 10 ** 399)
        history = played(floors, [amount, (0, 1)], [([1], [(0, 1), amount])])
        text = show_fraction(amount)
        self.assertEqual(show_history(history), f"1{'0' * 399} 1 | {text} 0 | 1 : 0 {text}")

    def test_only_signs_from_the_blank_to_the_tilde(self):
        for history in every_size(105)[::5]:
            self.assertTrue(set(show_history(history)) <= set("0123456789/ |:-"))

    def test_asked_again_it_is_the_same_and_nothing_is_changed(self):
        for history in every_size(106)[::9]:
            water = history.water()
            text = show_history(history)
            self.assertEqual(show_history(history), text)
            self.assertEqual(history.water(), water)
            self.assertEqual(show_water(water), " ".join(words(water)))
            self.assertEqual(meant(history.water()), meant(water))


if __name__ == "__main__":
    unittest.main()
