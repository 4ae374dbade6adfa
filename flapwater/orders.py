"""Orders of rains: what is left behind rains into single, empty tanks, whatever their order."""

from flapwater.amounts import NOUGHT, above
from flapwater.errors import NoOrder, NoRain
from flapwater.histories import History
from flapwater.tanks import check_floors, heaped


def check_rains(floors, rains):
    """Refuse a rain into a tank that there is not, or whose amount isn't above 0."""
    for number, (tank, amount) in enumerate(rains):
        if tank not in range(1, len(floors) + 1) or not above(amount, NOUGHT):
            raise NoRain(number)


def check_order(rains, order):
    """Refuse an order that does not name each rain, by its number from 0, once."""
    if sorted(order) != list(range(len(rains))):
        raise NoOrder(None)


def fallen(floors, rains):
    """The water behind the rains, each a step of its own, as they stand."""
    history = History(floors)
    for tank, amount in rains:
        rain = [NOUGHT] * len(floors)
        rain[tank - 1] = amount
        history.step([], rain)
    return history.water()


def bounds(floors, rains):
    """A tuple (least, most): for each place what is left of it behind the rains, of all their orders.

    In all places at once the least is come to by tanks rising, as if each rain fell alone, and the most by tanks
    falling, as if all fell at once. Rains into the same tank may change places: the water is the same.
    """
    check_floors(floors)
    check_rains(floors, rains)
    rising = sorted(rains, key=lambda rain: rain[0])
    return heaped(floors, fallen(floors, rising)), heaped(floors, fallen(floors, rising[::-1]))


def behind(floors, rains, order):
    """The water behind the rains in the order, a list of their numbers from 0."""
    check_floors(floors)
    check_rains(floors, rains)
    check_order(rains, order)
    return fallen(floors, [rains[number] for number in order])
