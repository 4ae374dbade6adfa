"""[2]: nothing handed in is changed or kept, what is told is the asker's own, and the kinds of values told."""

import copy
import unittest
from math import gcd
from random import Random

from flapwater.drops import drop_less, drop_more
from flapwater.errors import FlapError
from flapwater.histories import History
from flapwater.orders import behind, bounds
from flapwater.papers import best_rows, shows
from flapwater.readings import read_fraction, read_history, read_water
from flapwater.tanks import heaped, places, settled
from flapwater.texts import show_fraction, show_history, show_water
from flapwater.wanderers import best_table, price

from tests.lots import staying
from tests.made import every_size, many_histories, many_rows, played, whole
from tests.rains import some_rains


def spoil(value):
    """Change every list in the value, however deep."""
    for each in value:
        if isinstance(each, (list, tuple)):
            spoil(each)
    if isinstance(value, list):
        value.append("spoilt")
        value[0] = "spoilt"


def history():
    return played([2, 1, 3], whole(4, 1, 0), [([2, 1], whole(1, 0, 2)), ([], whole(0, 3, 0))])


ASKED = [
    lambda asked: asked.floors(),
    lambda asked: asked.steps(),
    lambda asked: asked.water(),
    lambda asked: asked.water(0),
    lambda asked: asked.water(1),
    lambda asked: asked.water(2),
]

TOLD_OF_HISTORIES = [
    best_table,
    best_rows,
    lambda asked: drop_more(asked, 0, 1),
    lambda asked: drop_more(asked, 1, 2),
    lambda asked: drop_less(asked, 0, 3),
]


class HandedIn(unittest.TestCase):
    def test_functions_change_nothing(self):
        for floors, water, bolted in many_rows(60, seed=11):
            handed = (floors, water, bolted)
            before = copy.deepcopy(handed)
            places(floors)
            heaped(floors, water)
            settled(floors, water, bolted)
            History(floors, water).step(bolted, water)
            self.assertEqual(handed, before)

    def test_wanderers_papers_and_drops_change_nothing(self):
        for asked in every_size(15, most_tanks=4, most_steps=3):
            table, rows = best_table(asked), best_rows(asked)
            before = copy.deepcopy((asked, table, rows))
            waters = [asked.water(number) for number in range(len(asked.steps()) + 1)]
            for k in range(len(asked.floors()) + 1):
                price(asked, table, k)
            shows(asked, rows)
            for step in range(len(asked.steps())):
                drop_more(asked, step, 1)
            self.assertEqual((asked, table, rows), before)
            self.assertEqual([asked.water(number) for number in range(len(waters))], waters)

    def test_refused_tables_rows_and_drops_change_nothing(self):
        asked, table, rows = history(), staying(history()), best_rows(history())
        table[1][2], rows[2] = [(2, (1, 2))], rows[2][:2]
        before = copy.deepcopy((asked, table, rows))
        self.assertRaises(FlapError, price, asked, table, 1)
        self.assertRaises(FlapError, price, asked, table[:1], 1)
        self.assertRaises(FlapError, shows, asked, rows)
        self.assertRaises(FlapError, drop_less, asked, 0, 2)
        self.assertRaises(FlapError, drop_more, asked, 2, 1)
        self.assertRaises(FlapError, drop_more, asked, 0, 4)
        self.assertEqual((asked, table, rows), before)

    def test_tables_and_rows_are_not_kept(self):
        asked = history()
        table, rows = staying(asked), best_rows(asked)
        paid = price(asked, table, 1)
        self.assertTrue(shows(asked, rows))
        spoil(table)
        spoil(rows)
        self.assertEqual(price(asked, staying(asked), 1), paid)
        self.assertTrue(shows(asked, best_rows(history())))
        self.assertEqual(asked, history())

    def test_refusals_change_nothing(self):
        floors, water, bolted = [1, 1, 1], whole(1, 2, 3), [2, 1, 2]
        self.assertRaises(FlapError, settled, floors, water, bolted)
        self.assertRaises(FlapError, History(floors, water).step, bolted, water)
        self.assertEqual((floors, water, bolted), ([1, 1, 1], whole(1, 2, 3), [2, 1, 2]))

    def test_nothing_is_kept(self):
        floors, water, bolted, rain = [2, 1, 3], whole(4, 1, 0), [2, 1], whole(1, 0, 2)
        kept = History(floors, water)
        kept.step(bolted, rain)
        kept.step([], whole(0, 3, 0))
        for handed in (floors, water, bolted, rain):
            spoil(handed)
        self.assertEqual(kept, history())
        for asked in ASKED:
            self.assertEqual(asked(kept), asked(history()))
        self.assertEqual(kept.left(2), history().left(2))

    def test_orders_change_nothing(self):
        chance = Random(17)
        for floors, _, _ in many_rows(60, seed=17):
            rains = some_rains(chance, len(floors), chance.randint(0, 6))
            order = chance.sample(range(len(rains)), len(rains))
            before = copy.deepcopy((floors, rains, order))
            bounds(floors, rains)
            behind(floors, rains, order)
            self.assertEqual((floors, rains, order), before)

    def test_refused_orders_change_nothing(self):
        floors, rains, order = [1, 1], [(2, (1, 1)), (1, (1, 1)), (3, (1, 1))], [2, 0, 0]
        self.assertRaises(FlapError, bounds, floors, rains)
        self.assertRaises(FlapError, behind, floors, rains, order)
        self.assertRaises(FlapError, behind, floors, rains[:2], order)
        self.assertEqual((floors, rains, order), ([1, 1], [(2, (1, 1)), (1, (1, 1)), (3, (1, 1))], [2, 0, 0]))

    def test_texts_change_nothing(self):
        for asked in every_size(18, most_tanks=4, most_steps=3):
            before, waters = copy.deepcopy(asked), [told(asked) for told in ASKED[:4]]
            water = asked.water(0)
            show_history(asked)
            show_water(water)
            self.assertEqual((asked, water), (before, asked.water(0)))
            self.assertEqual([told(asked) for told in ASKED[:4]], waters)

    def test_one_list_may_be_handed_in_for_several(self):
        amounts = whole(1, 1)
        kept = History([1, 1], amounts)
        kept.step([], amounts)
        self.assertEqual(amounts, whole(1, 1))
        self.assertEqual(kept.water(), whole(2, 2))
        self.assertEqual(kept.water(0), whole(1, 1))


class Told(unittest.TestCase):
    def test_histories_tell_new_lists(self):
        for asked in ASKED:
            kept = history()
            spoil(asked(kept))
            self.assertEqual(kept, history())
            for again in ASKED:
                self.assertEqual(again(kept), again(history()))
            kept.step([1], whole(1, 1, 1))
            kept.undo()
            self.assertEqual(kept, history())

    def test_told_lists_stay_what_they_were(self):
        kept = history()
        told_ahead = [asked(kept) for asked in ASKED]
        before = copy.deepcopy(told_ahead)
        kept.step([1], whole(9, 9, 9))
        kept.undo()
        kept.undo()
        kept.undo()
        self.assertEqual(told_ahead, before)

    def test_an_undone_history_tells_new_lists_too(self):
        kept = history()
        kept.undo()
        spoil(kept.water())
        spoil(kept.steps())
        kept.step([], whole(0, 3, 0))
        self.assertEqual(kept, history())
        self.assertEqual(kept.water(), history().water())

    def test_functions_tell_new_lists(self):
        floors, water = [2, 1, 3], whole(1, 2, 3)
        for asked in (lambda: places(floors), lambda: heaped(floors, water), lambda: settled(floors, water),
                      lambda: settled(floors, water, [1, 2])):
            before = copy.deepcopy(asked())
            spoil(asked())
            self.assertEqual(asked(), before)
            self.assertEqual((floors, water), ([2, 1, 3], whole(1, 2, 3)))

    def test_tables_rows_and_drops_are_new_lists(self):
        for asked in TOLD_OF_HISTORIES:
            kept = history()
            before = copy.deepcopy(asked(kept))
            spoil(asked(kept))
            self.assertEqual(asked(kept), before)
            self.assertEqual(kept, history())
            for again in TOLD_OF_HISTORIES + ASKED:
                self.assertEqual(again(kept), again(history()))

    def test_no_list_stands_twice_in_what_is_told(self):
        for asked in (best_table, best_rows):
            for kept in every_size(16, most_tanks=3, most_steps=3):
                told = asked(kept)
                lists = [told, *told] + [lot for lots in told for lot in lots if isinstance(lot, list)]
                self.assertEqual(len({id(each) for each in lists}), len(lists))

    def test_bounds_and_water_behind_are_new_lists(self):
        for rains, order in (([], []), ([(2, (1, 1)), (1, (3, 1))], [1, 0])):
            floors = [2, 1, 3]
            asked = (lambda: bounds(floors, rains), lambda: behind(floors, rains, order))
            before = copy.deepcopy([each() for each in asked])
            for each in asked:
                spoil(each())
                self.assertEqual([again() for again in asked], before)
            least, most = bounds(floors, rains)
            self.assertIsNot(least, most)
            spoil(least)
            self.assertEqual((most, floors), (before[0][1], [2, 1, 3]))

    def test_spoilt_rains_and_orders_change_nothing_told(self):
        floors, rains, order = [2, 1, 3], [(2, (1, 1)), (1, (3, 1))], [1, 0]
        told_ahead = (bounds(floors, rains), behind(floors, rains, order))
        before = copy.deepcopy(told_ahead)
        for handed in (floors, rains, order):
            spoil(handed)
        self.assertEqual(told_ahead, before)

    def test_what_is_read_is_new_each_time(self):
        text = show_history(history())
        one, other = read_history(text), read_history(text)
        self.assertIsNot(one, other)
        one.step([1], whole(1, 1, 1))
        for asked in ASKED:
            spoil(asked(one))
        self.assertEqual(other, history())
        self.assertEqual(read_history(text), history())
        for asked in ASKED:
            self.assertEqual(asked(read_history(text)), asked(history()))
        spoil(read_water("1 2"))
        self.assertEqual(read_water("1 2"), whole(1, 2))
        self.assertEqual(read_fraction("1/2"), (1, 2))

    def test_told_texts_stay_what_they_were(self):
        kept, water = history(), whole(1, 2)
        ahead = (show_history(kept), show_water(water), show_fraction((1, 2)))
        kept.undo()
        spoil(water)
        self.assertEqual(ahead, (show_history(history()), "1 2", "1/2"))

    def test_told_tables_rows_and_drops_stay_what_they_were(self):
        kept = history()
        told_ahead = [asked(kept) for asked in TOLD_OF_HISTORIES]
        before = copy.deepcopy(told_ahead)
        kept.step([1], whole(9, 9, 9))
        for asked in TOLD_OF_HISTORIES:
            asked(kept)
        kept.undo()
        self.assertEqual(told_ahead, before)
        self.assertEqual([asked(kept) for asked in TOLD_OF_HISTORIES], before)

    def test_empty_tanks_at_first_are_new_each_time(self):
        spoil(History([1, 1]).water())
        self.assertEqual(History([1, 1]).water(), whole(0, 0))

    def test_asked_again_it_is_the_same(self):
        for floors, water, steps in many_histories(20, seed=12):
            self.assertEqual(played(floors, water, steps).water(), played(floors, water, steps).water())


class Kinds(unittest.TestCase):
    def check(self, amounts):
        for amount in amounts:
            self.assertIs(type(amount), tuple)
            self.assertEqual([type(part) for part in amount], [int, int])
            self.assertGreaterEqual(amount[1], 1)
            self.assertEqual(gcd(*amount), 1)
            self.assertGreaterEqual(amount[0], 0)

    def test_fractions_in_lowest_terms(self):
        for floors, water, bolted in many_rows(100, seed=13):
            self.check(heaped(floors, water))
            self.check(settled(floors, water, bolted))
        for floors, water, steps in many_histories(60, seed=14):
            kept = played(floors, water, steps)
            self.check([kept.left(k) for k in range(len(floors) + 1)])
            for number in range(len(steps) + 1):
                self.check(kept.water(number))

    def test_bounds_and_water_behind_in_lowest_terms(self):
        chance = Random(19)
        for floors, _, _ in many_rows(100, seed=19):
            rains = some_rains(chance, len(floors), chance.randint(0, 10))
            for amounts in bounds(floors, rains):
                self.check(amounts)
            self.check(behind(floors, rains, list(range(len(rains)))))

    def test_what_is_read_in_lowest_terms(self):
        for kept in every_size(20)[::5]:
            found = read_history(show_history(kept))
            for number in range(len(kept.steps()) + 1):
                self.check(found.water(number))
            for _, rain in found.steps():
                self.check(rain)
            self.check(read_water(show_water(kept.water())))

    def test_nought_is_nought_by_one(self):
        self.assertEqual(settled([7, 9], whole(0, 0)), [(0, 1), (0, 1)])
        self.assertEqual(History([7, 9]).left(0), (0, 1))
        self.assertEqual(History([7, 9], [(0, 1), (5, 6)]).left(1), (0, 1))


if __name__ == "__main__":
    unittest.main()
