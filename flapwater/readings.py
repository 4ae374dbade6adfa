"""Readings: a fraction, water and a History read back from the one text that writes it."""

from flapwater.amounts import NOUGHT, above, lowest
from flapwater.errors import FlapError, NoText
from flapwater.histories import History

MOST_FIGURES = 400


def number_of(word):
    """The whole number, from 0 on, that the word writes."""
    # Asked ahead of int, which would read blanks, underscores, noughts ahead and figures of other scripts, too.
    if not (word.isascii() and word.isdigit()) or len(word) > MOST_FIGURES:
        raise NoText(word)
    if word.startswith("0") and word != "0":
        raise NoText(word)
    return int(word)


def top_of(word):
    """The top that the word writes: a whole number, perhaps below 0."""
    if not word.startswith("-"):
        return number_of(word)
    below = number_of(word[1:])
    if below == 0:
        raise NoText(word)
    return -below


def fraction_of(word):
    """The fraction that the word writes."""
    top_word, slash, bottom_word = word.partition("/")
    top = top_of(top_word)
    if slash == "":
        return (top, 1)
    bottom = number_of(bottom_word)
    if bottom < 2 or lowest(top, bottom) != (top, bottom):
        raise NoText(word)
    return (top, bottom)


def water_of(text):
    """The amounts that the text writes, none below 0."""
    water = [fraction_of(word) for word in text.split(" ")]
    if any([above(NOUGHT, amount) for amount in water]):
        raise NoText(text)
    return water


def numbers_of(text):
    """The whole numbers, from 0 on, that the text writes."""
    return [number_of(word) for word in text.split(" ")]


def bolted_of(text):
    """The bolted flaps that the text writes, rising."""
    if text == "-":
        return []
    bolted = numbers_of(text)
    if any([flap >= further for flap, further in zip(bolted, bolted[1:])]):
        raise NoText(text)
    return bolted


def step_of(text):
    """The step, a tuple (bolted, rain), that the text writes."""
    parts = text.split(" : ")
    if len(parts) != 2:
        raise NoText(text)
    return bolted_of(parts[0]), water_of(parts[1])


def history_of(text):
    """The History that the text writes; what the row has not is refused by the History."""
    parts = text.split(" | ")
    if len(parts) < 2:
        raise NoText(text)
    history = History(numbers_of(parts[0]), water_of(parts[1]))
    for part in parts[2:]:
        bolted, rain = step_of(part)
        history.step(bolted, rain)
    return history


def read_fraction(text):
    """The fraction that the text writes, in lowest terms."""
    try:
        return fraction_of(text)
    except NoText:
        raise NoText(text) from None


def read_water(text):
    """The water that the text writes."""
    try:
        return water_of(text)
    except NoText:
        raise NoText(text) from None


def read_history(text):
    """The History that the text writes, with all its steps."""
    try:
        return history_of(text)
    except FlapError:
        raise NoText(text) from None
