"""[14], reading: what is written is read back, and any text that writes none is refused."""

import unittest
from fractions import Fraction
from random import Random

from flapwater.errors import FlapError, NoText
from flapwater.histories import History
from flapwater.readings import read_fraction, read_history, read_water
from flapwater.texts import show_fraction, show_history, show_water

from tests.made import every_size, many_histories, many_rows, meant, played, some_amount, told, whole
from tests.refusing import Refusing
from tests.written import SIGNS, one_sign_off, writes_fraction, writes_history, writes_water

READERS = (read_fraction, read_water, read_history)
FORMS = (
    (read_fraction, show_fraction, writes_fraction),
    (read_water, show_water, writes_water),
    (read_history, show_history, writes_history),
)

NO_NUMBERS = [
    "", " ", "-", "--1", "- 1", "+1", "+0", "-0", "00", "01", "-01", "007", "1_000", "1,000", "1.5", "1e3", "0x1",
    "one", "1a", "a1", "0-1", "1-", "None", "(1, 2)", "[1]", "1\n", "\t1", "\u0661", "\u00b2", "\u0967", "\uff11",
    "1\u00a0", "\x001",
]
NO_FRACTIONS = [
    "1/1", "0/1", "2/4", "1/0", "0/0", "0/5", "6/3", "-2/4", "-1/1", "-0/1", "-0/2", "1/-2", "1/+2", "-1/-2", "1 /2",
    "1/ 2", "1 / 2", "1/", "/2", "/", "1//2", "1/2/3", "1/02", "01/2", "1/2_0", "1\\2", "1/\u0662", "1:2", "1|2",
    "1/00", "1/01",
]


def large_history(chance):
    """More tanks, more steps and larger floors than are handed in by [2]."""
    floors = [chance.randint(10 ** 19, 10 ** 20 - 1) for _ in range(12)]
    steps = []
    for _ in range(14):
        bolted = [flap for flap in range(11, 0, -1) if chance.random() < 0.3]
        steps.append((bolted, [told(some_amount(chance)) for _ in floors]))
    return played(floors, [told(some_amount(chance)) for _ in floors], steps)


class ReadBack(unittest.TestCase):
    def check_fraction(self, fraction):
        found = read_fraction(show_fraction(fraction))
        self.assertEqual(found, fraction)
        self.assertIs(type(found), tuple)
        self.assertEqual([type(number) for number in found], [int, int])

    def check_history(self, history):
        text = show_history(history)
        found = read_history(text)
        self.assertIs(type(found), History)
        self.assertTrue(found == history)
        self.assertFalse(found != history)
        self.assertEqual((found.floors(), found.steps()), (history.floors(), history.steps()))
        self.assertEqual(found.water(), history.water())
        for number in range(len(history.steps()) + 1):
            self.assertEqual(found.water(number), history.water(number))
        self.assertEqual(show_history(found), text)

    def test_fractions_by_hand(self):
        self.assertEqual(read_fraction("0"), (0, 1))
        self.assertEqual(read_fraction("7"), (7, 1))
        self.assertEqual(read_fraction("1/2"), (1, 2))
        self.assertEqual(read_fraction("10/3"), (10, 3))
        self.assertEqual(read_fraction("-1"), (-1, 1))
        self.assertEqual(read_fraction("-10/30301"), (-10, 30301))

    def test_many_fractions(self):
        chance = Random(111)
        for _ in range(500):
            self.check_fraction(told(some_amount(chance) * chance.choice((1, -1))))
        for top in range(-20, 21):
            for bottom in range(1, 21):
                self.check_fraction(told(Fraction(top, bottom)))

    def test_fractions_of_four_hundred_figures(self):
        most, least = 10 ** 400 - 1, 10 ** 399
        for fraction in ((most, 1), (-most, 1), (1, most), (-1, most), (most, least), (-most, least), (least, most)):
            self.check_fraction(fraction)

    def test_water_by_hand(self):
        self.assertEqual(read_water("0"), [(0, 1)])
        self.assertEqual(read_water("1/2 0 30"), [(1, 2), (0, 1), (30, 1)])
        self.assertEqual(read_water("0 0"), whole(0, 0))

    def test_many_waters(self):
        for _, water, _ in many_rows(200, seed=112):
            found = read_water(show_water(water))
            self.assertEqual(found, water)
            self.assertIs(type(found), list)
            self.assertEqual({type(amount) for amount in found}, {tuple})

    def test_water_of_more_tanks_and_larger_amounts(self):
        water = [told(Fraction(10 ** 399 + number, 10 ** 400 - 1)) for number in range(40)]
        self.assertEqual(read_water(show_water(water)), water)

    def test_histories_by_hand(self):
        self.check_history(History([3]))
        self.check_history(History([1, 1], whole(9, 3)))
        found = read_history("2 1 3 | 4 1 0 | 1 : 1/2 0 3 | - : 0 0 0 | 1 2 : 0 7 0")
        self.assertEqual(found, played([2, 1, 3], whole(4, 1, 0), [
            ([1], [(1, 2), (0, 1), (3, 1)]), ([], whole(0, 0, 0)), ([2, 1], whole(0, 7, 0))]))

    def test_histories_of_every_size(self):
        for history in every_size(113):
            self.check_history(history)

    def test_many_histories(self):
        for floors, water, steps in many_histories(100, seed=114):
            self.check_history(played(floors, water, steps))

    def test_the_water_at_first_stays_as_it_was_handed_in(self):
        for text in ("1 1 | 9 3", "1 1 | 9 3 | - : 0 0"):
            found = read_history(text)
            self.assertEqual(found.water(0), whole(9, 3))
            self.assertEqual(show_history(found), text)

    def test_a_read_history_goes_on(self):
        found, history = read_history("1 1 | 0 0 | 1 : 4 0"), played([1, 1], None, [([1], whole(4, 0))])
        found.step([], whole(0, 2))
        history.step([], whole(0, 2))
        self.assertEqual(found, history)
        self.assertEqual(found.water(), whole(3, 3))
        for _ in range(2):
            found.undo()
        self.assertEqual(found, History([1, 1]))
        self.assertNotEqual(found, history)

    def test_more_tanks_more_steps_and_larger_floors(self):
        for seed in range(3):
            self.check_history(large_history(Random(seed)))

    def test_flaps_of_two_figures_rise_as_numbers(self):
        rest = f"{'1 ' * 12}| {'0 ' * 12}"
        rain = "0 " * 11 + "0"
        self.assertEqual(read_history(f"{rest}| 2 10 11 : {rain}").steps()[0][0], [2, 10, 11])
        with self.assertRaises(NoText):
            read_history(f"{rest}| 10 11 2 : {rain}")

    def test_texts_of_four_thousand_signs(self):
        for steps in (1, 300):
            tanks = 2 if steps == 300 else 600
            text = " ".join("1" * tanks) + " | " + " ".join("9" * tanks)
            text += f" | - : {' '.join('0' * tanks)}" * steps
            self.assertEqual(show_history(read_history(text)), text)
        text = " ".join("7" * 2000)
        self.assertEqual(show_water(read_water(text)), text)

    def test_floors_of_many_figures_in_many_steps(self):
        # Bottoms grow with each step here: all of these are read in seconds.
        floors = f"{'1' * 60} {'2' * 59}3 {'7' * 60}"
        text = f"{floors} | 1 1 1" + " | 2 : 1 0 0 | 1 : 1 1 0" * 60
        found = read_history(text)
        self.assertEqual(len(found.steps()), 120)
        self.assertEqual(meant(found.left(3)), 3 + 180)
        self.assertEqual(show_history(found), text)


class Fractions(Refusing):
    def test_no_numbers(self):
        for word in NO_NUMBERS + NO_FRACTIONS:
            self.refused(NoText, word, read_fraction, word)

    def test_no_bottoms(self):
        for word in NO_NUMBERS + ["-1", "-2", "0", "1"]:
            self.refused(NoText, "1/" + word, read_fraction, "1/" + word)

    def test_no_tops(self):
        for word in NO_NUMBERS:
            self.refused(NoText, word + "/7", read_fraction, word + "/7")

    def test_blanks(self):
        for text in (" 1", "1 ", " 1/2", "1/2 ", " -1", "1 2", "0  0", "1/2 3", "- 1/2", "-1 /2", "1/ 2"):
            self.refused(NoText, text, read_fraction, text)

    def test_more_than_four_hundred_figures(self):
        for figures in (401, 402, 1000, 3999, 5000):
            many = "1" * figures
            for text in (many, "-" + many, "1/" + many, many + "/2", "-1/" + many, "0" * figures):
                self.refused(NoText, text, read_fraction, text)

    def test_all_texts_of_three_signs_that_may_write_one(self):
        signs = "0123 /-+_|:"
        for text in [a + b + c for a in signs for b in signs for c in signs]:
            self.check_text(text)

    def test_all_texts_of_one_and_two_signs(self):
        for text in [""] + SIGNS + [a + b for a in SIGNS for b in SIGNS]:
            self.check_text(text)

    def check_text(self, text):
        for reader, show, writes in FORMS:
            if writes(text):
                self.assertEqual(show(reader(text)), text)
            else:
                self.refused(NoText, text, reader, text)


class Water(Refusing):
    def test_no_amounts(self):
        for word in NO_NUMBERS + NO_FRACTIONS + ["-1", "-1/2", "-12"]:
            for text in (word, "0 " + word, word + " 0", "1/2 " + word + " 3"):
                self.refused(NoText, text, read_water, text)

    def test_blanks(self):
        for text in ("", " ", "  ", " 1 2", "1 2 ", "1  2", "1 2  3", "1/2  0", "1\t2", "1\n2"):
            self.refused(NoText, text, read_water, text)

    def test_below_nought(self):
        for text in ("-1", "0 -1", "-1/60 0", "1 2 -3 4"):
            self.refused(NoText, text, read_water, text)

    def test_more_than_four_hundred_figures(self):
        for text in ("1 " + "1" * 401, "1/" + "3" * 401 + " 0"):
            self.refused(NoText, text, read_water, text)
        self.assertEqual(read_water("1 " + "1" * 400)[1][1], 1)


class Histories(Refusing):
    def all_refused(self, texts):
        for text in texts:
            with self.subTest(text):
                self.refused(NoText, text, read_history, text)

    def test_floors(self):
        self.all_refused(f"{word} | 0" for word in NO_NUMBERS + NO_FRACTIONS + ["0", "-1", "1/2", "-"])
        self.all_refused(f"1 {word} | 0 0" for word in NO_NUMBERS + NO_FRACTIONS + ["0", "-1", "1/2", "-"])
        self.all_refused(["0 | 0", "1 0 | 0 0", "3 -1 | 0 0", "0 0 | 0 0 | - : 0 0"])

    def test_water_at_first(self):
        self.all_refused(f"1 2 | 0 {word}" for word in NO_NUMBERS + NO_FRACTIONS + ["-1", "-1/2"])
        self.all_refused(["1 2 | 1", "1 2 | 1 2 3", "1 | ", "1 | 0 0", "1 2 | "])

    def test_rain(self):
        self.all_refused(f"1 2 | 0 0 | - : {word} 1" for word in NO_NUMBERS + NO_FRACTIONS + ["-1", "-1/2"])
        self.all_refused(["1 2 | 0 0 | - : 1", "1 2 | 0 0 | - : 1 2 3", "1 2 | 0 0 | - : ",
                          "1 2 | 0 0 | - : 0 0 | 1 : 1", "1 2 | 0 0 | - : 1 | - : 0 0"])

    def test_flaps(self):
        words = NO_NUMBERS + NO_FRACTIONS + ["0", "-1", "1/2", "3", "4", "1" * 400]
        self.all_refused(f"1 2 3 | 0 0 0 | {word} : 0 0 0" for word in words if word != "-")
        self.all_refused(f"1 2 3 | 0 0 0 | 1 {word} : 0 0 0" for word in words)
        self.all_refused(["1 | 0 | 1 : 0", "1 | 0 | 0 : 0", "1 1 | 0 0 | 2 : 0 0"])

    def test_flaps_twice_and_not_rising(self):
        self.all_refused(f"1 1 1 1 | 0 0 0 0 | {flaps} : 0 0 0 0" for flaps in (
            "1 1", "2 2", "1 2 2", "1 1 2", "2 1", "3 2 1", "1 3 2", "2 1 3", "1 2 1"))

    def test_a_dash_beside_a_flap(self):
        self.all_refused(f"1 1 1 | 0 0 0 | {flaps} : 0 0 0" for flaps in (
            "- 1", "1 -", "-1", "- -", "--", "1 - 2", " -", "- ", ""))

    def test_parts(self):
        self.all_refused([
            "", "1", "1 1", " | ", "1 | ", " | 1", "|", "1|0", "1 |0", "1| 0", "1  | 0", "1 |  0", " 1 | 0", "1 | 0 ",
            "1 | 0 | ", "1 | 0 |", "1 | 0 | | ", "1 | 0 |  | - : 0", "1 | 0 | - : 0 | ", "1 | 0 | - : 0 |",
            "1 | 0 | -", "1 | 0 | - 0", "1 | 0 | 0", "1 | 0 | - :0", "1 | 0 | -: 0", "1 | 0 | -:0", "1 | 0 | - : ",
            "1 | 0 |  : 0", "1 | 0 | : 0", "1 | 0 | - : 0 : 0", "1 | 0 | - : - : 0", "1 | 0 | - :  0", "1 | 0 | -  : 0",
            "1 | 0 || - : 0", "1 | 0 | - :: 0", "1 | 0 - : 0", "1 : 0", "1 | 0 : 0", "1 | - : 0", "1 | 0 |- : 0",
            "1 | 0 | - : 0| - : 0", "1 | 0\n| - : 0", "1 | 0 | - : 0\n",
        ])

    def test_more_than_four_hundred_figures(self):
        many, most = "1" * 401, "1" * 400
        self.all_refused([f"{many} | 0", f"1 | {many}", f"1 | 1/{many}", f"1 | 0 | - : {many}", f"1 | 0 | {many} : 0"])
        for text in (f"{most} | 0", f"1 | {most}", f"1 | 3/{most}", f"1 | 0 | - : {most}"):
            self.assertEqual(show_history(read_history(text)), text)

    def test_what_is_told_is_the_whole_text(self):
        for text in ("1 1 | 0 0 | 1 : 0 0 | - : 0 x", "1 1 | 0 0 | 1 : 0 0 | 2 : 0 0", "1 1 | 0 0 | 1 : 0 0 | - : 0"):
            with self.assertRaises(NoText) as caught:
                read_history(text)
            self.assertEqual(caught.exception.what, text)


class NoOtherText(Refusing):
    """No text but one is read for each fraction, water or History."""

    def check(self, form, text):
        reader, show, writes = form
        try:
            found = reader(text)
        except FlapError as refusal:
            self.assertIs(type(refusal), NoText)
            self.assertEqual(refusal.what, text)
            self.assertFalse(writes(text), text)
        else:
            self.assertTrue(writes(text), text)
            self.assertEqual(show(found), text)

    def test_texts_that_are_one_sign_off(self):
        for form, texts in zip(FORMS, (
                ("0", "7", "-12", "10/3", "-1/21"),
                ("0", "1/2 0 30", "5 7/11"),
                ("3 | 0", "2 1 | 4 0 | 1 : 1/2 0 | - : 0 9", "1 1 1 | 0 0 0 | 1 2 : 3 0 0"))):
            for text in texts:
                self.assertEqual(form[1](form[0](text)), text)
                for other in one_sign_off(text):
                    self.check(form, other)

    def test_texts_that_are_two_signs_off(self):
        chance = Random(121)
        for form, text in ((FORMS[0], "-7/15"), (FORMS[1], "1/2 10"), (FORMS[2], "2 1 | 4 0 | 1 : 3/2 0")):
            signs = "0123456789 |:/-"
            for other in chance.sample(one_sign_off(text, signs), 60):
                for further in chance.sample(one_sign_off(other, signs), 60):
                    self.check(form, further)

    def test_texts_of_some_signs(self):
        chance = Random(122)
        for _ in range(4000):
            signs = chance.choice(("01 /-", "12 |:-", "0123456789 |:/-", "".join(SIGNS)))
            text = "".join(chance.choice(signs) for _ in range(chance.randint(0, 12)))
            for form in FORMS:
                self.check(form, text)

    def test_long_texts_that_write_none(self):
        for text in ("1" * 4000, " " * 4000, "-" * 4000, "/" * 4000, "1 " * 2000, "1 | " * 1000, " | " * 1333,
                     "1 | 0" + " | - : 0" * 400 + " | ", "1/" * 2000, "0" * 4000, "1 : " * 1000, "~" * 4000):
            for reader in READERS:
                self.refused(NoText, text, reader, text)

    def test_different_fractions_waters_and_histories_have_different_texts(self):
        chance = Random(123)
        fractions = {told(some_amount(chance)) for _ in range(300)}
        self.assertEqual(len({show_fraction(each) for each in fractions}), len(fractions))
        texts = [show_history(history) for history in every_size(124)]
        for one, other in zip(texts, texts[1:]):
            self.assertEqual(one == other, read_history(one) == read_history(other))


if __name__ == "__main__":
    unittest.main()
