"""Rains into single tanks for the tests, and all their orders gone through one by one."""

from fractions import Fraction
from itertools import permutations

from tests.made import all_left, meant, played, some_amount, sums, told


def some_rains(chance, tanks, many):
    """Rains of which some fall into the same tank, and some are alike."""
    found = []
    while len(found) < many:
        amount = some_amount(chance)
        if amount > 0:
            found.append((chance.randint(1, tanks), told(amount)))
    return found


def as_rain(tanks, tank, amount):
    """The rain of a step in which all falls into one tank."""
    return [amount if number == tank else (0, 1) for number in range(1, tanks + 1)]


def in_turn(floors, rains):
    """The History that has a step for each of the rains, as they stand."""
    return played(floors, None, [([], as_rain(len(floors), tank, amount)) for tank, amount in rains])


def all_orders(rains):
    return [list(order) for order in permutations(range(len(rains)))]


def in_order(floors, rains, order):
    return in_turn(floors, [rains[number] for number in order])


def bounds_one_by_one(floors, rains):
    """For each place the least and the most that is left of it, of all orders, as Fractions."""
    found = [all_left(in_order(floors, rains, order)) for order in all_orders(rains)]
    return [min(left) for left in zip(*found)], [max(left) for left in zip(*found)]


def at_once(floors, rains):
    """All the rains as the rain of one step."""
    amounts = [sum(meant(amount) for tank, amount in rains if tank == number) for number in range(1, len(floors) + 1)]
    return told(amounts)


def each_alone(floors, rains):
    """What is left of each place where each rain spreads level from its tank to the right end, as Fractions."""
    at = sums(floors)
    left = [Fraction(0)] * len(at)
    for tank, amount in rains:
        start = at[tank - 1]
        left = [less + meant(amount) * max(0, place - start) / (at[-1] - start) for less, place in zip(left, at)]
    return left
