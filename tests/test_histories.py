"""[7]: histories, their steps, the water behind each, undoing, and when two are equal."""

import unittest
from random import Random

from flapwater.errors import NoFlap, NoFloors, NoStep, NoWater
from flapwater.histories import History

from tests.made import greatest_settled, many_histories, meant, played, sums, told, whole
from tests.refusing import Refusing


def seen(history):
    """All that a History tells."""
    steps = history.steps()
    return (
        history.floors(),
        steps,
        history.water(),
        [history.water(number) for number in range(len(steps) + 1)],
        [history.left(k) for k in range(len(history.floors()) + 1)],
    )


class AtFirst(Refusing):
    def test_empty_tanks_where_water_is_left_out(self):
        for history in (History([2, 1, 3]), History([2, 1, 3], None), History([2, 1, 3], water=None)):
            self.assertEqual(history.water(), whole(0, 0, 0))
            self.assertEqual(history.water(0), whole(0, 0, 0))
            self.assertEqual(history.floors(), [2, 1, 3])
            self.assertEqual(history.steps(), [])

    def test_water_as_it_was_handed_in_not_settled(self):
        history = History([1, 1, 1], whole(9, 3, 0))
        self.assertEqual(history.water(), whole(9, 3, 0))
        self.assertEqual(history.water(0), whole(9, 3, 0))
        self.assertEqual([history.left(k) for k in range(4)], whole(0, 9, 12, 12))
        history.step([], whole(0, 0, 0))
        self.assertEqual(history.water(0), whole(9, 3, 0))
        self.assertEqual(history.water(), whole(4, 4, 4))

    def test_refused(self):
        self.refused(NoFloors, None, History, [])
        self.refused(NoFloors, None, History, [], [])
        self.refused(NoFloors, 2, History, [1, 2, 0, -1])
        self.refused(NoFloors, 0, History, [0], whole(-1))
        self.refused(NoWater, None, History, [1], [])
        self.refused(NoWater, None, History, [1, 1], whole(-1))
        self.refused(NoWater, 1, History, [1, 1, 1], whole(0, -1, -1))


class Steps(Refusing):
    def test_a_step_lets_rain_fall_and_all_settle(self):
        history = History([2, 1, 3], whole(4, 0, 0))
        self.assertIsNone(history.step([], whole(0, 1, 0)))
        self.assertEqual(history.water(), [(5, 3), (5, 6), (5, 2)])
        history.step([1], whole(3, 0, 0))
        self.assertEqual(history.water(), [(14, 3), (5, 6), (5, 2)])
        history.step([2, 1], whole(0, 0, 1))
        self.assertEqual(history.water(), [(14, 3), (5, 6), (7, 2)])
        history.step([2], whole(0, 0, 0))
        self.assertEqual(history.water(), [(11, 3), (11, 6), (7, 2)])

    def test_a_bolted_flap_is_free_again_in_the_next_step(self):
        history = History([1, 1])
        history.step([1], whole(2, 0))
        self.assertEqual(history.water(), whole(2, 0))
        history.step([], whole(0, 0))
        self.assertEqual(history.water(), whole(1, 1))

    def test_bolted_flaps_rising(self):
        history = History([1] * 8)
        history.step([7, 2, 5, 1], whole(*[0] * 8))
        history.step([], whole(*[1] * 8))
        history.step([3], whole(*range(8)))
        self.assertEqual(history.steps(), [([1, 2, 5, 7], whole(*[0] * 8)), ([], whole(*[1] * 8)),
                                           ([3], whole(*range(8)))])

    def test_told_kinds(self):
        history = History([1, 1], whole(1, 2))
        history.step([1], whole(0, 3))
        (step,) = history.steps()
        self.assertIs(type(history.steps()), list)
        self.assertIs(type(step), tuple)
        self.assertEqual([type(each) for each in step], [list, list])
        self.assertIs(type(history.floors()), list)
        self.assertIs(type(history.water()), list)
        self.assertIs(type(history.left(1)), tuple)

    def test_rain_is_told_as_it_was_handed_in(self):
        history = History([1, 1])
        history.step([], whole(4, 0))
        self.assertEqual(history.steps(), [([], whole(4, 0))])

    def test_water_of_each_number_from_none_to_ten_steps(self):
        for many in range(11):
            chance = Random(many)
            floors = [2, 5, 1, 3]
            history, expected = History(floors), [whole(0, 0, 0, 0)]
            for _ in range(many):
                rain = whole(*[chance.randint(0, 9) for _ in floors])
                bolted = [k for k in (3, 1, 2) if chance.random() < 0.3]
                history.step(bolted, rain)
                fallen = [told(a + b) for a, b in zip(meant(expected[-1]), meant(rain))]
                expected.append(greatest_settled(floors, fallen, bolted))
            self.assertEqual(len(history.steps()), many)
            self.assertEqual([history.water(number) for number in range(many + 1)], expected)
            self.assertEqual(history.water(), expected[-1])
            self.assertEqual(history.water(None), expected[-1])
            self.assertEqual([history.left(k) for k in range(5)], told(sums(meant(expected[-1]))))

    def test_many_histories(self):
        for floors, water, steps in many_histories(200):
            history = played(floors, water, steps)
            now, expected = water, [water]
            for bolted, rain in steps:
                now = [told(a + b) for a, b in zip(meant(now), meant(rain))]
                now = greatest_settled(floors, now, bolted)
                expected.append(now)
            left = told(sums(meant(now)))
            self.assertEqual(seen(history), (
                floors, [(sorted(bolted), rain) for bolted, rain in steps], now, expected, left))

    def test_no_such_number_of_steps(self):
        history = History([1, 1])
        self.refused(NoStep, 1, history.water, 1)
        self.refused(NoStep, -1, history.water, -1)
        for _ in range(10):
            history.step([], whole(1, 1))
        self.assertEqual(history.water(10), whole(10, 10))
        self.refused(NoStep, 11, history.water, 11)
        self.refused(NoStep, -1, history.water, -1)
        self.refused(NoStep, 10 ** 5000, history.water, 10 ** 5000)

    def test_no_such_place(self):
        history = History([1, 1], whole(3, 4))
        self.assertEqual([history.left(k) for k in (0, 1, 2)], whole(0, 3, 7))
        self.refused(NoFlap, 3, history.left, 3)
        self.refused(NoFlap, -1, history.left, -1)
        self.refused(NoFlap, 2, History([1]).left, 2)


class RefusedSteps(Refusing):
    def test_flaps_and_rain(self):
        history = History([1, 1, 1], whole(1, 2, 3))
        self.refused(NoFlap, 3, history.step, [1, 3, 1], whole(0, 0, 0))
        self.refused(NoFlap, 0, history.step, [0], whole(0, 0, 0))
        self.refused(NoFlap, 2, history.step, [1, 2, 2, 5], whole(0, 0, 0))
        self.refused(NoFlap, 1, History([1]).step, [1], whole(0))
        self.refused(NoWater, None, history.step, [], [])
        self.refused(NoWater, None, history.step, [], whole(-1, 0))
        self.refused(NoWater, None, history.step, [], whole(0, 0, 0, 0))
        self.refused(NoWater, 1, history.step, [], whole(0, -1, -2))

    def test_flaps_go_ahead_of_rain(self):
        history = History([1, 1])
        self.refused(NoFlap, 2, history.step, [2], whole(-1, 0))
        self.refused(NoFlap, 1, history.step, [1, 1], [])

    def test_refused_changes_nothing(self):
        history = History([1, 1, 1], whole(5, 2, 3))
        for _ in range(3):
            before = seen(history)
            self.refused(NoFlap, 3, history.step, [3], whole(1, 1, 1))
            self.refused(NoFlap, 1, history.step, [1, 1], whole(1, 1, 1))
            self.refused(NoWater, None, history.step, [1], whole(1, 1))
            self.refused(NoWater, 2, history.step, [1], whole(1, 1, -1))
            self.refused(NoStep, 7, history.water, 7)
            self.refused(NoFlap, 4, history.left, 4)
            self.assertEqual(seen(history), before)
            history.step([2], whole(1, 0, 4))
        fresh = History([1])
        self.refused(NoStep, 0, fresh.undo)
        self.assertEqual(seen(fresh), seen(History([1])))


class Undo(Refusing):
    def test_as_if_the_step_had_never_been(self):
        for floors, water, steps in many_histories(60, seed=4):
            history = History(floors, water)
            ahead = [seen(history)]
            for bolted, rain in steps:
                history.step(bolted, rain)
                ahead.append(seen(history))
            for number in range(len(steps), 0, -1):
                self.assertEqual(seen(history), ahead[number])
                self.assertIsNone(history.undo())
                self.assertEqual(history, played(floors, water, steps[:number - 1]))
                self.refused(NoStep, number, history.water, number)
            self.assertEqual(seen(history), ahead[0])
            self.refused(NoStep, 0, history.undo)
            self.assertEqual(seen(history), ahead[0])

    def test_none_to_undo(self):
        history = History([1, 1], whole(3, 0))
        self.refused(NoStep, 0, history.undo)
        history.step([], whole(0, 0))
        history.undo()
        self.refused(NoStep, 0, history.undo)
        self.assertEqual(history.water(), whole(3, 0))

    def test_other_steps_behind_an_undone_one(self):
        history = History([1, 1])
        history.step([], whole(4, 0))
        history.step([1], whole(4, 0))
        history.undo()
        history.step([], whole(0, 2))
        self.assertEqual(history.steps(), [([], whole(4, 0)), ([], whole(0, 2))])
        self.assertEqual(history.water(), whole(2, 4))


class Equal(unittest.TestCase):
    def alike(self, one, other):
        self.assertTrue(one == other)
        self.assertTrue(other == one)
        self.assertFalse(one != other)
        self.assertFalse(other != one)

    def unlike(self, one, other):
        self.assertFalse(one == other)
        self.assertFalse(other == one)
        self.assertTrue(one != other)
        self.assertTrue(other != one)

    def test_alike(self):
        self.alike(History([2, 1]), History([2, 1]))
        self.alike(History([2, 1]), History([2, 1], whole(0, 0)))
        for floors, water, steps in many_histories(40, seed=5):
            self.alike(played(floors, water, steps),
                       played(floors, water, [(bolted[::-1], rain) for bolted, rain in steps]))

    def test_alike_with_itself(self):
        history = History([1], whole(1))
        self.alike(history, history)

    def test_unlike_floors(self):
        self.unlike(History([2, 1]), History([1, 2]))
        self.unlike(History([1]), History([1, 1]))

    def test_unlike_first_water(self):
        self.unlike(History([1, 1], whole(1, 0)), History([1, 1], whole(0, 1)))
        self.unlike(History([1, 1]), History([1, 1], whole(0, 1)))

    def test_unlike_first_water_though_the_water_now_is_alike(self):
        one, other = History([1, 1], whole(2, 0)), History([1, 1], whole(1, 1))
        one.step([], whole(0, 0))
        other.step([], whole(0, 0))
        self.assertEqual(one.water(), other.water())
        self.unlike(one, other)

    def test_unlike_steps_though_the_water_is_alike(self):
        empty = History([1, 1])
        dry = played([1, 1], None, [([], whole(0, 0))])
        dry_bolted = played([1, 1], None, [([1], whole(0, 0))])
        self.unlike(empty, dry)
        self.unlike(dry, dry_bolted)
        self.unlike(played([1, 1], None, [([], whole(2, 0))]), played([1, 1], None, [([], whole(1, 1))]))
        self.unlike(played([1, 1], None, [([], whole(1, 1)), ([], whole(0, 0))]),
                    played([1, 1], None, [([], whole(0, 0)), ([], whole(1, 1))]))

    def test_undone_is_alike(self):
        history = played([1, 1], whole(1, 0), [([1], whole(1, 1))])
        self.unlike(history, History([1, 1], whole(1, 0)))
        history.undo()
        self.alike(history, History([1, 1], whole(1, 0)))

    def test_unlike_what_is_no_history(self):
        for other in (None, 0, "2 1", [2, 1], ([2, 1], whole(0, 0), [])):
            self.unlike(History([2, 1]), other)


if __name__ == "__main__":
    unittest.main()
