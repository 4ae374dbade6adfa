"""Lots and tables for the tests, and what a wanderer pays by them, worked out another way."""

from fractions import Fraction
from itertools import product

from tests.made import heaps_of, meant, stretch_ends, sums, told


def told_lot(chances):
    """A dict of places and their chances as a lot."""
    return [(place, told(chances[place])) for place in sorted(chances)]


def staying(history):
    """The table by which nobody ever goes."""
    return [[[(k, (1, 1))] for k in range(len(history.floors()) + 1)] for _ in history.steps()]


def reach(floors, bolted, k):
    """The first and the last place to which who stands at place k may go."""
    inside = [(start, end) for start, end in stretch_ends(floors, bolted) if start < k < end]
    return inside[0] if inside else (k, k)


def between(floors, low, high, k):
    """The one fair lot from place k to two places around it, as a dict."""
    at = sums(floors)
    if low == high:
        return {k: Fraction(1)}
    return {low: (at[high] - at[k]) / (at[high] - at[low]), high: (at[k] - at[low]) / (at[high] - at[low])}


def mixed(one, other, part):
    """As much of the one lot as the part says, and the rest of the other; both as dicts."""
    found = {place: chance * part for place, chance in one.items()}
    for place, chance in other.items():
        found[place] = found.get(place, 0) + chance * (1 - part)
    return found


def two_place_lots(floors, bolted, k):
    """All fair lots of one place or two from place k."""
    first, last = reach(floors, bolted, k)
    pairs = [(k, k)] + [(low, high) for low in range(first, k) for high in range(k + 1, last + 1)]
    return [told_lot(between(floors, low, high, k)) for low, high in pairs]


def two_place_tables(history):
    """All tables of lots of one place or two."""
    floors = history.floors()
    steps = [[two_place_lots(floors, bolted, k) for k in range(len(floors) + 1)] for bolted, _ in history.steps()]
    return product(*[[list(lots) for lots in product(*choices)] for choices in steps])


def some_part(chance, figures):
    bottom = chance.randint(10 ** (figures - 1) + 1, 10 ** figures)
    return Fraction(chance.randint(1, bottom - 1), bottom)


def some_lot(chance, floors, bolted, k, figures=2):
    """A fair lot of one to four places."""
    first, last = reach(floors, bolted, k)
    if first == last or chance.random() < 0.1:
        return told_lot({k: Fraction(1)})

    def pair():
        return between(floors, chance.randint(first, k - 1), chance.randint(k + 1, last), k)

    kind = chance.randrange(4)
    if kind == 0:
        return told_lot(pair())
    if kind == 1:
        return told_lot(mixed(pair(), {k: Fraction(1)}, some_part(chance, figures)))
    return told_lot(mixed(pair(), pair(), some_part(chance, figures)))


def some_table(chance, history, figures=2):
    floors = history.floors()
    return [[some_lot(chance, floors, bolted, k, figures) for k in range(len(floors) + 1)]
            for bolted, _ in history.steps()]


def moved(lots, chances):
    """The chances to be at each place behind the lots."""
    found = {}
    for place, chance in chances.items():
        for goal, part in lots[place]:
            found[goal] = found.get(goal, 0) + chance * meant(part)
    return found


def paid_on_average(chances, heap):
    return sum(chance * heap[place] for place, chance in chances.items())


def reckoned(history, table, k):
    """The price of place k, from where the wanderer may be behind each step that it goes back through."""
    first, rains = heaps_of(history)
    chances, paid = {k: Fraction(1)}, Fraction(0)
    for lots, rain in zip(reversed(table), reversed(rains)):
        chances = moved(lots, chances)
        paid += paid_on_average(chances, rain)
    return paid + paid_on_average(chances, first)


def ways(table, k):
    """All ways from place k, the last step first: tuples (chance, places at which the steps are paid)."""
    if not table:
        return [(Fraction(1), ())]
    found = []
    for goal, part in table[-1][k]:
        for chance, further in ways(table[:-1], goal):
            found.append((meant(part) * chance, (goal,) + further))
    return found


def way_by_way(history, table, k):
    """The price of place k: each way's whole price with its chance."""
    first, rains = heaps_of(history)
    price = Fraction(0)
    for chance, goals in ways(table, k):
        end = goals[-1] if goals else k
        price += chance * (sum(rain[goal] for rain, goal in zip(reversed(rains), goals)) + first[end])
    return price


def chance_beyond(table, step, k, tank):
    """The chance of a wanderer from place k to be at that tank's place or farther when the step is paid."""
    chances = {k: Fraction(1)}
    for lots in reversed(table[step:]):
        chances = moved(lots, chances)
    return sum(chance for place, chance in chances.items() if place >= tank)
