"""The names, arguments and places of definition that the interface lists."""

import inspect
import unittest
from pathlib import Path

from flapwater import drops, histories, orders, papers, readings, tanks, texts, wanderers
from flapwater.drops import drop_less, drop_more
from flapwater.histories import History
from flapwater.orders import behind, bounds
from flapwater.papers import best_rows, shows
from flapwater.readings import read_fraction, read_history, read_water
from flapwater.tanks import heaped, places, settled
from flapwater.texts import show_fraction, show_history, show_water
from flapwater.wanderers import best_table, price

from tests.made import played, whole

REQUIRED = inspect.Parameter.empty


def arguments(function):
    return [(each.name, each.default) for each in inspect.signature(function).parameters.values()]


class Interface(unittest.TestCase):
    def test_functions_have_the_told_arguments(self):
        self.assertEqual(arguments(places), [("floors", REQUIRED)])
        self.assertEqual(arguments(heaped), [("floors", REQUIRED), ("water", REQUIRED)])
        self.assertEqual(arguments(settled), [("floors", REQUIRED), ("water", REQUIRED), ("bolted", ())])

        self.assertEqual(arguments(price), [("history", REQUIRED), ("table", REQUIRED), ("k", REQUIRED)])
        self.assertEqual(arguments(best_table), [("history", REQUIRED)])
        self.assertEqual(arguments(shows), [("history", REQUIRED), ("rows", REQUIRED)])
        self.assertEqual(arguments(best_rows), [("history", REQUIRED)])
        for function in (drop_more, drop_less):
            self.assertEqual(arguments(function), [("history", REQUIRED), ("step", REQUIRED), ("tank", REQUIRED)])

    def test_functions_of_orders_texts_and_readings_have_the_told_arguments(self):
        self.assertEqual(arguments(bounds), [("floors", REQUIRED), ("rains", REQUIRED)])
        self.assertEqual(arguments(behind), [("floors", REQUIRED), ("rains", REQUIRED), ("order", REQUIRED)])
        self.assertEqual(arguments(show_fraction), [("fraction", REQUIRED)])
        self.assertEqual(arguments(show_water), [("water", REQUIRED)])
        self.assertEqual(arguments(show_history), [("history", REQUIRED)])
        for function in (read_fraction, read_water, read_history):
            self.assertEqual(arguments(function), [("text", REQUIRED)])

    def test_history_has_the_told_arguments(self):
        self.assertEqual(arguments(History), [("floors", REQUIRED), ("water", None)])
        self.assertEqual(arguments(History([1]).step), [("bolted", REQUIRED), ("rain", REQUIRED)])
        self.assertEqual(arguments(History([1]).undo), [])
        self.assertEqual(arguments(History([1]).steps), [])
        self.assertEqual(arguments(History([1]).floors), [])
        self.assertEqual(arguments(History([1]).water), [("number", None)])
        self.assertEqual(arguments(History([1]).left), [("k", REQUIRED)])

    def test_each_is_defined_in_its_file(self):
        for module, functions in ((tanks, (places, heaped, settled)), (wanderers, (price, best_table)),
                                  (papers, (shows, best_rows)), (drops, (drop_more, drop_less)),
                                  (orders, (bounds, behind)), (texts, (show_fraction, show_water, show_history)),
                                  (readings, (read_fraction, read_water, read_history))):
            for function in functions:
                self.assertEqual(function.__module__, module.__name__)
        self.assertEqual(History.__module__, histories.__name__)

    def test_methods_stand_in_the_class_itself(self):
        for name in ("step", "undo", "steps", "floors", "water", "left", "__eq__"):
            self.assertIn(name, vars(History))

    def test_the_told_names_work_as_the_places_do(self):
        self.assertEqual(places(floors=[2, 1]), places([2, 1]))
        self.assertEqual(heaped(water=whole(4, 1), floors=[2, 1]), heaped([2, 1], whole(4, 1)))
        self.assertEqual(settled(bolted=[1], water=whole(4, 1), floors=[2, 1]), settled([2, 1], whole(4, 1), [1]))
        named = History(water=whole(4, 1), floors=[2, 1])
        named.step(rain=whole(1, 0), bolted=[1])
        placed = History([2, 1], whole(4, 1))
        placed.step([1], whole(1, 0))
        self.assertEqual(named, placed)
        self.assertEqual(named.water(number=0), placed.water(0))
        self.assertEqual(named.left(k=1), placed.left(1))

    def test_the_told_names_work_for_wanderers_papers_and_drops(self):
        history = played([2, 1], whole(4, 1), [([], whole(0, 3)), ([1], whole(1, 0))])
        table, rows = best_table(history), best_rows(history)
        self.assertEqual(best_table(history=history), table)
        self.assertEqual(price(k=1, table=table, history=history), price(history, table, 1))
        self.assertEqual(best_rows(history=history), rows)
        self.assertIs(shows(rows=rows, history=history), True)
        self.assertEqual(drop_more(tank=2, step=0, history=history), drop_more(history, 0, 2))
        self.assertEqual(drop_less(tank=2, step=0, history=history), drop_less(history, 0, 2))

    def test_the_told_names_work_for_orders_texts_and_readings(self):
        rains = [(2, (1, 1)), (1, (3, 1))]
        self.assertEqual(bounds(rains=rains, floors=[2, 1]), bounds([2, 1], rains))
        self.assertEqual(behind(order=[1, 0], rains=rains, floors=[2, 1]), behind([2, 1], rains, [1, 0]))
        self.assertEqual(show_fraction(fraction=(1, 2)), "1/2")
        self.assertEqual(show_water(water=whole(4, 0)), "4 0")
        self.assertEqual(show_history(history=History([2, 1])), "2 1 | 0 0")
        self.assertEqual(read_fraction(text="1/2"), (1, 2))
        self.assertEqual(read_water(text="4 0"), whole(4, 0))
        self.assertEqual(read_history(text="2 1 | 0 0"), History([2, 1]))

    def test_the_package_is_plain_files(self):
        folder = Path(tanks.__file__).parent
        found = sorted(each.name for each in folder.iterdir() if each.name != "__pycache__")
        self.assertIn("__init__.py", found)
        self.assertTrue({"errors.py", "tanks.py", "histories.py", "wanderers.py", "papers.py", "drops.py", "orders.py",
                         "texts.py", "readings.py"} <= set(found))
        self.assertTrue(all(name.endswith(".py") and not name.startswith("test") for name in found))


if __name__ == "__main__":
    unittest.main()
