"""Texts: how a fraction, water and a History are written."""


def show_fraction(fraction):
    """The fraction as TOP/BOTTOM, or as TOP where its bottom is 1."""
    top, bottom = fraction
    return str(top) if bottom == 1 else f"{top}/{bottom}"


def show_water(water):
    """The amounts with blanks between."""
    return " ".join([show_fraction(amount) for amount in water])


def show_numbers(numbers):
    """The whole numbers with blanks between."""
    return " ".join([str(number) for number in numbers])


def show_step(bolted, rain):
    """A step as BOLTED : RAIN, - where no flap is bolted."""
    flaps = show_numbers(bolted) if bolted else "-"
    return f"{flaps} : {show_water(rain)}"


def show_history(history):
    """The History as FLOORS | WATER, the water at first, and behind it BOLTED : RAIN for each step."""
    parts = [show_numbers(history.floors()), show_water(history.water(0))]
    parts.extend([show_step(bolted, rain) for bolted, rain in history.steps()])
    return " | ".join(parts)
