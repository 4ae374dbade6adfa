"""Drops: where a little more rain, or a little less, would end."""

from flapwater.amounts import NOUGHT, share, sums
from flapwater.errors import NoDrop, NoStep, NoTank
from flapwater.tanks import at_rest, stretches
from flapwater.wanderers import still_places


def check_drop(history, step, tank):
    """Refuse a step or a tank that there is not."""
    if step not in range(len(history.steps())):
        raise NoStep(step)
    if tank not in range(1, len(history.floors()) + 1):
        raise NoTank(tank)


def shut_flaps(history, number):
    """The flaps past which no small drop comes in that step: bolted, or with water standing lower on the left."""
    floors = history.floors()
    bolted, _ = history.steps()[number]
    heights = [share(amount, 1, floor) for amount, floor in zip(history.water(number + 1), floors)]
    return [flap for flap in range(1, len(floors)) if flap in bolted or heights[flap - 1] != heights[flap]]


def levelled(floors, drop, flaps):
    """The drop spread level between each two of the flaps that are next to each other."""
    told = []
    for start, end in stretches(floors, flaps):
        amount, whole = sums(drop[start:end])[-1], sum(floors[start:end])
        told.extend([share(amount, floor, whole) for floor in floors[start:end]])
    return told


def carried(history, step, tank, drop):
    """How much of the drop, put into the tank in that step, stands left of each place now.

    Where water comes past a flap in a step it still does with a small drop more or less, so that the drop is spread
    level there. Past a flap where none comes, but where it stands alike high on both sides, the drop comes as water
    does: from where it stands higher on the left. One that is taken out is a drop below 0.
    """
    floors, still = history.floors(), still_places(history)
    spread = [NOUGHT] * len(floors)
    spread[tank - 1] = drop
    for number in range(step, len(still)):
        spread = levelled(floors, spread, still[number][1:-1])
        spread = at_rest(floors, spread, shut_flaps(history, number))
    return sums(spread)


def drop_more(history, step, tank):
    """For each place the share of a drop more, into the tank in that step, that stands left of it now."""
    check_drop(history, step, tank)
    return carried(history, step, tank, (1, 1))


def drop_less(history, step, tank):
    """For each place the share of a drop less, into the tank in that step, that is missing left of it now."""
    check_drop(history, step, tank)
    _, rain = history.steps()[step]
    if rain[tank - 1] == NOUGHT:
        raise NoDrop(None)
    return [(-top, bottom) for top, bottom in carried(history, step, tank, (-1, 1))]
