"""[10]: a table by which each place's price is just what is left of it now."""

import unittest
from random import Random

from flapwater.histories import History
from flapwater.wanderers import best_table, price

from tests.lots import reach, reckoned, two_place_tables, way_by_way
from tests.made import all_left, every_size, many_histories, meant, played, small_histories, sums, whole


class BestTable(unittest.TestCase):
    def check_lot(self, floors, bolted, k, lot):
        """Fair by the document's words, with at most two places."""
        at = sums(floors)
        goals = [place for place, _ in lot]
        chances = [meant(chance) for _, chance in lot]
        first, last = reach(floors, bolted, k)
        self.assertIn(len(lot), (1, 2))
        self.assertEqual(goals, sorted(set(goals)))
        self.assertTrue(all(first <= place <= last for place in goals))
        self.assertTrue(all(chance > 0 for chance in chances))
        self.assertEqual(sum(chances), 1)
        self.assertEqual(sum(chance * at[place] for place, chance in zip(goals, chances)), at[k])

    def check(self, history):
        floors, table, left = history.floors(), best_table(history), all_left(history)
        self.assertEqual([len(lots) for lots in table], [len(floors) + 1] * len(history.steps()))
        for (bolted, _), lots in zip(history.steps(), table):
            for k, lot in enumerate(lots):
                self.check_lot(floors, bolted, k, lot)
        for k in range(len(floors) + 1):
            self.assertEqual(reckoned(history, table, k), left[k])
            self.assertEqual(price(history, table, k), history.left(k))

    def test_by_hand(self):
        history = played([1, 1], None, [([], whole(2, 0))])
        self.assertEqual(best_table(history), [[[(0, (1, 1))], [(0, (1, 2)), (2, (1, 2))], [(2, (1, 1))]]])
        history = played([2, 1, 3], None, [([], whole(6, 0, 0)), ([1, 2], whole(1, 0, 0))])
        self.assertEqual(best_table(history), [
            [[(0, (1, 1))], [(0, (2, 3)), (3, (1, 3))], [(0, (1, 2)), (3, (1, 2))], [(3, (1, 1))]],
            [[(k, (1, 1))] for k in range(4)],
        ])

    def test_without_steps(self):
        self.assertEqual(best_table(History([1])), [])
        self.assertEqual(best_table(History([3, 1], whole(4, 0))), [])

    def test_told_kinds(self):
        for history in (played([2, 1, 3], whole(9, 1, 0), [([], whole(6, 0, 0)), ([1], whole(1, 0, 0))]),
                        played([1], None, [([], [(1, 2)])])):
            table = best_table(history)
            self.assertIs(type(table), list)
            for lots in table:
                self.assertIs(type(lots), list)
                for lot in lots:
                    self.assertIs(type(lot), list)
                    for each in lot:
                        self.assertIs(type(each), tuple)
                        place, (top, bottom) = each
                        self.assertEqual([type(number) for number in (place, top, bottom)], [int] * 3)
                        self.assertEqual((top, bottom), meant((top, bottom)).as_integer_ratio())

    def test_histories_of_every_size(self):
        for history in every_size(41):
            self.check(history)

    def test_many_histories(self):
        for floors, water, steps in many_histories(200, seed=42):
            self.check(played(floors, water, steps))

    def test_water_at_first_that_is_not_settled(self):
        self.check(played([1, 2, 3], whole(9, 0, 0), [([1], whole(0, 0, 0)), ([], whole(0, 0, 0))]))

    def test_water_alike_high_everywhere(self):
        self.check(played([2, 1, 3], whole(2, 1, 3), [([], whole(2, 1, 3)), ([2], whole(0, 0, 0))]))
        self.check(played([2, 1, 3], None, [([], whole(0, 0, 0))] * 3))

    def test_behind_an_undone_step(self):
        history = played([1, 1], None, [([], whole(2, 0)), ([1], whole(9, 0))])
        history.undo()
        self.assertEqual(best_table(history), best_table(played([1, 1], None, [([], whole(2, 0))])))

    def test_no_table_of_lots_of_two_places_at_most_pays_less(self):
        for history in small_histories(43, 60):
            left = all_left(history)
            tables = list(two_place_tables(history))
            for k, least in enumerate(left):
                self.assertEqual(min(way_by_way(history, table, k) for table in tables), least)

    def test_no_table_of_lots_of_two_places_at_most_pays_less_by_the_program(self):
        chance = Random(44)
        for history in small_histories(44, 12, tanks=4):
            tables = list(two_place_tables(history))
            for table in chance.sample(tables, min(len(tables), 300)):
                for k, least in enumerate(all_left(history)):
                    self.assertGreaterEqual(meant(price(history, table, k)), least)


if __name__ == "__main__":
    unittest.main()
