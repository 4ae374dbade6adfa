"""What the texts write, worked out another way: by patterns, and by what the patterns cannot say."""

import re
from math import gcd

NUMBER = r"(?:0|[1-9][0-9]{0,399})"
FROM_ONE = r"[1-9][0-9]{0,399}"
AMOUNT = rf"{NUMBER}(?:/{FROM_ONE})?"
FRACTION = rf"(?:-(?!0)){AMOUNT}|{AMOUNT}"
WATER = rf"{AMOUNT}(?: {AMOUNT})*"
FLOORS = rf"{FROM_ONE}(?: {FROM_ONE})*"
HISTORY = rf"{FLOORS} \| {WATER}(?: \| (?:-|{FLOORS}) : {WATER})*"


def in_lowest_terms(word):
    if "/" not in word:
        return True
    top, bottom = [int(figures) for figures in word.split("/")]
    return bottom > 1 and gcd(top, bottom) == 1


def writes_fraction(text):
    return re.fullmatch(FRACTION, text) is not None and in_lowest_terms(text)


def writes_water(text):
    return re.fullmatch(WATER, text) is not None and all(in_lowest_terms(word) for word in text.split())


def writes_history(text):
    if re.fullmatch(HISTORY, text) is None:
        return False
    floors, water, *steps = text.split(" | ")
    tanks = len(floors.split())
    amounts = [water] + [step.split(" : ")[1] for step in steps]
    flaps = [[int(flap) for flap in step.split(" : ")[0].split() if flap != "-"] for step in steps]
    return (all(writes_water(each) and len(each.split()) == tanks for each in amounts)
            and all(each == sorted(set(each)) and all(flap < tanks for flap in each) for each in flaps))


def written_history(floors, water, steps):
    """The text of the History, sign by sign as the document tells it; whole numbers and words alone."""
    parts = [" ".join(map(str, floors)), " ".join(map(str, water))]
    for bolted, rain in steps:
        parts.append(f"{' '.join(map(str, bolted)) or '-'} : {' '.join(map(str, rain))}")
    return " | ".join(parts)


SIGNS = [chr(code) for code in range(ord(" "), ord("~") + 1)]


def one_sign_off(text, signs=SIGNS):
    """All texts that one sign left out, put in, or written over by another one makes of the text."""
    found = {text[:at] + text[at + 1:] for at in range(len(text))}
    found.update(text[:at] + sign + text[at:] for at in range(len(text) + 1) for sign in signs)
    found.update(text[:at] + sign + text[at + 1:] for at in range(len(text)) for sign in signs)
    return sorted(found - {text})
