"""[11]: rows, whether they show their last row, and the best rows."""

import unittest
from fractions import Fraction
from math import gcd
from random import Random

from flapwater.errors import NoRows
from flapwater.histories import History
from flapwater.papers import best_rows, shows
from flapwater.tanks import heaped

from tests.made import (all_left, every_size, heaps_of, lowest_chords, many_histories, meant, played, some_amount,
                        stretch_ends, sums, told, whole)
from tests.refusing import Refusing

LITTLE = Fraction(1, 10 ** 40)


def with_rain(row, rain):
    return [height + more for height, more in zip(row, rain)]


def shown(history, rows):
    """Whether rows show, by the document's words."""
    first, rains = heaps_of(history)
    floors, rows = history.floors(), meant(rows)
    if any(height > most for height, most in zip(rows[0], first)):
        return False
    for number, (bolted, _) in enumerate(history.steps()):
        row = rows[number + 1]
        if any(height > most for height, most in zip(row, with_rain(rows[number], rains[number]))):
            return False
        rises = [Fraction(row[k + 1] - row[k], floor) for k, floor in enumerate(floors)]
        for start, end in stretch_ends(floors, bolted):
            if rises[start:end] != sorted(rises[start:end]):
                return False
    return True


def lower_rows(chance, history):
    """Rows shaped as told: each somewhat below what it may be at most, then without a bend downwards."""
    first, rains = heaps_of(history)
    rows = [[height - some_amount(chance) for height in first]]
    for (bolted, _), rain in zip(history.steps(), rains):
        most = [height - chance.choice((0, 0, 1, some_amount(chance))) for height in with_rain(rows[-1], rain)]
        rows.append(lowest_chords(history.floors(), most, bolted))
    return rows


def bent(chance, history):
    """Best or lower rows with one height somewhat changed."""
    rows = chance.choice((meant(best_rows(history)), lower_rows(chance, history)))
    row = chance.choice(rows)
    row[chance.randrange(len(row))] += chance.choice((-1, 1)) * chance.choice((LITTLE, 1, some_amount(chance)))
    return rows


class BestRows(unittest.TestCase):
    def check(self, history):
        rows = best_rows(history)
        self.assertEqual(rows, [heaped(history.floors(), history.water(number))
                                for number in range(len(history.steps()) + 1)])
        self.assertEqual(meant(rows[-1]), all_left(history))
        self.assertIs(shows(history, rows), True)

    def test_by_hand(self):
        history = played([2, 1, 3], whole(1, 0, 0), [([1], whole(3, 1, 0)), ([], whole(0, 0, 2))])
        self.assertEqual(best_rows(history), [
            whole(0, 1, 1, 1),
            [(0, 1), (4, 1), (17, 4), (5, 1)],
            [(0, 1), (7, 3), (7, 2), (7, 1)],
        ])

    def test_without_steps(self):
        self.assertEqual(best_rows(History([2, 1], whole(3, 4))), [whole(0, 3, 7)])
        self.assertIs(shows(History([2, 1], whole(3, 4)), [whole(0, 3, 7)]), True)

    def test_histories_of_every_size(self):
        for history in every_size(51):
            self.check(history)

    def test_many_histories(self):
        for floors, water, steps in many_histories(150, seed=52):
            self.check(played(floors, water, steps))

    def test_told_kinds(self):
        for history in every_size(53, most_tanks=4, most_steps=3):
            rows = best_rows(history)
            self.assertEqual({type(each) for each in [rows, *rows]}, {list})
            for row in rows:
                for height in row:
                    self.assertIs(type(height), tuple)
                    self.assertEqual([type(part) for part in height], [int, int])
                    self.assertEqual(gcd(*height), 1)
                    self.assertGreaterEqual(height[1], 1)


class Shows(unittest.TestCase):
    def test_rows_below_that_are_shaped_as_told(self):
        chance = Random(54)
        for history in every_size(54)[::2]:
            rows = lower_rows(chance, history)
            self.assertIs(shows(history, told(rows)), True)
            self.assertTrue(all(low <= high for low, high in zip(rows[-1], all_left(history))))

    def test_what_they_show_is_nowhere_above_what_is_left_now(self):
        chance = Random(55)
        counts = {True: 0, False: 0}
        for floors, water, steps in many_histories(600, seed=55):
            history = played(floors, water, steps)
            rows = bent(chance, history)
            found = shows(history, told(rows))
            self.assertIs(found, shown(history, told(rows)))
            counts[found] += 1
            if found:
                self.assertTrue(all(low <= high for low, high in zip(rows[-1], all_left(history))))
        self.assertTrue(min(counts.values()) > 50)

    def test_heights_below_nought(self):
        history = played([2, 1, 3], whole(1, 0, 0), [([1], whole(3, 1, 0)), ([], whole(0, 0, 2))])
        self.assertIs(shows(history, [whole(-9, -9, -9, -9)] * 3), True)
        self.assertIs(shows(history, [whole(-1, -2, -3, -4), whole(-7, -7, -7, -7), whole(-9, -9, -9, -9)]), True)
        # Falling rises of heights below 0, and one above the row ahead, though both are below 0.
        self.assertIs(shows(history, [whole(-1, -1, -1, -1), whole(-9, -9, -9, -9), whole(-20, -10, -9, -9)]), False)
        self.assertIs(shows(history, [whole(-9, -9, -9, -9), whole(-9, -9, -9, -9), whole(-8, -8, -8, -8)]), False)

    def test_the_first_row_need_not_be_shaped(self):
        history = played([1, 1, 1], whole(9, 9, 9), [([], whole(0, 0, 0))])
        self.assertIs(shows(history, [whole(0, 9, 9, 10), whole(0, 3, 6, 9)]), True)
        self.assertIs(shows(History([1, 1, 1], whole(9, 9, 9)), [whole(-1, 9, -50, 20)]), True)

    def test_one_height_too_high_at_first(self):
        for history in every_size(56, most_tanks=5, most_steps=4):
            for k in range(len(history.floors()) + 1):
                rows = meant(best_rows(history))
                rows[0][k] += LITTLE
                self.assertIs(shows(history, told(rows)), False)

    def test_one_height_above_the_row_ahead_with_the_rain(self):
        # Where the water rests as it was heaped, with each tank standing higher than the one ahead, a height may
        # be somewhat higher without a bend downwards: only that it is above the row ahead tells against it.
        floors = [2, 1, 3, 1]
        steps = [([], whole(2, 2, 9, 4)), ([2], whole(0, 0, 0, 0)), ([], whole(2, 1, 3, 1))]
        history = played(floors, whole(0, 1, 6, 3), steps)
        for number in (1, 2, 3):
            for k in range(5):
                rows = meant(best_rows(history))
                rows[number][k] += LITTLE
                self.assertIs(shows(history, told(rows)), False)
                rows[number][k] -= LITTLE
                self.assertIs(shows(history, told(rows)), True)

    def test_a_whole_row_above_the_row_ahead_with_the_rain(self):
        for history in every_size(57, most_tanks=5, most_steps=5):
            for number in range(1, len(history.steps()) + 1):
                rows = meant(best_rows(history))
                for later in range(number, len(rows)):
                    rows[later] = [height + LITTLE for height in rows[later]]
                self.assertIs(shows(history, told(rows)), False)

    def test_rain_of_the_very_step(self):
        history = played([1, 1], None, [([], whole(0, 5)), ([], whole(0, 0)), ([], whole(0, 7))])
        rows = best_rows(history)
        self.assertIs(shows(history, rows), True)
        self.assertIs(shows(history, [rows[0], rows[1], rows[3], rows[3]]), False)
        self.assertIs(shows(history, [rows[1], rows[1], rows[2], rows[3]]), False)

    def test_one_rise_that_falls_within_a_stretch(self):
        floors = [2, 1, 3]
        for bolted in ([], [1], [2], [2, 1]):
            history = played(floors, whole(20, 20, 20), [(bolted, whole(0, 0, 0)), ([2], whole(0, 0, 0))])
            for k in (1, 2):
                rows = [whole(0, 20, 40, 60), [Fraction(at) for at in sums(floors)], whole(-9, -9, -9, -9)]
                rows[1] = [height - 1 for height in rows[1]]
                rows[1][k] += LITTLE
                found = shows(history, [rows[0], told(rows[1]), rows[2]])
                self.assertIs(found, k in bolted)

    def test_rises_go_by_floors(self):
        history = played([1, 4], whole(9, 9), [([], whole(0, 0))])
        self.assertIs(shows(history, [whole(0, 9, 18), whole(0, 1, 5)]), True)
        self.assertIs(shows(history, [whole(0, 9, 18), [(0, 1), (1, 1), (49, 10)]]), False)
        history = played([4, 1], whole(9, 9), [([], whole(0, 0))])
        self.assertIs(shows(history, [whole(0, 9, 18), whole(0, 4, 5)]), True)
        self.assertIs(shows(history, [whole(0, 9, 18), [(0, 1), (41, 10), (5, 1)]]), False)

    def test_a_rise_that_falls_at_a_bolted_flap_alone_may(self):
        history = played([1, 1, 1], None, [([1], whole(9, 1, 2))])
        self.assertIs(shows(history, [whole(0, 0, 0, 0), whole(0, 9, 10, 12)]), True)
        for bolted in ([], [2]):
            history = played([1, 1, 1], None, [(bolted, whole(9, 1, 2))])
            self.assertIs(shows(history, [whole(0, 0, 0, 0), whole(0, 9, 10, 12)]), False)

    def test_bolts_of_the_very_step(self):
        history = played([1, 1], None, [([], whole(0, 0)), ([1], whole(5, 0)), ([], whole(0, 0))])
        nought, heap, level = whole(0, 0, 0), whole(0, 5, 5), [(0, 1), (5, 2), (5, 1)]
        self.assertIs(shows(history, [nought, nought, heap, level]), True)
        self.assertIs(shows(history, [nought, nought, heap, heap]), False)

    def test_rows_hold_for_the_history_as_it_is_now(self):
        history = played([1, 1], None, [([], whole(2, 0))])
        rows = best_rows(history)
        history.step([], whole(0, 0))
        history.undo()
        self.assertIs(shows(history, rows), True)


class Refused(Refusing):
    def test_not_as_many_as_steps_and_one(self):
        history = played([1, 1], None, [([], whole(1, 0)), ([1], whole(0, 1))])
        rows = best_rows(history)
        for wrong in ([], rows[:1], rows[:2], rows + rows[:1]):
            self.refused(NoRows, None, shows, history, wrong)
        self.refused(NoRows, None, shows, History([1]), [])
        self.refused(NoRows, None, shows, History([1]), [whole(0, 0), whole(0, 0)])

    def test_not_as_many_heights_as_places(self):
        history = played([1, 1], None, [([], whole(1, 0)), ([1], whole(0, 1))])
        for number in range(3):
            for row in ([], whole(0), whole(0, 0), whole(0, 0, 0, 0)):
                rows = best_rows(history)
                rows[number] = row
                self.refused(NoRows, None, shows, history, rows)

    def test_also_where_rows_ahead_do_not_show(self):
        history = played([1, 1], None, [([], whole(1, 0)), ([1], whole(0, 1))])
        self.refused(NoRows, None, shows, history, [whole(9, 9, 9), whole(9, 9, 9), whole(0, 0)])
        self.refused(NoRows, None, shows, history, [whole(9, 9, 9), whole(9, 9, 9)])


if __name__ == "__main__":
    unittest.main()
