"""What the tests make: rows from a fixed seed, and the document's own words worked out another way."""

from fractions import Fraction
from itertools import combinations
from random import Random

from flapwater.histories import History

# Small enough: far below any difference of heights in histories of the sizes that are asked here.
SMALL = Fraction(1, 10 ** 400)


def told(value):
    """A Fraction, a whole number or a list of these as the program's fractions."""
    if isinstance(value, list):
        return [told(each) for each in value]
    value = Fraction(value)
    return (value.numerator, value.denominator)


def meant(value):
    """The program's fractions, or a list of them, as Fractions."""
    if isinstance(value, list):
        return [meant(each) for each in value]
    return Fraction(*value)


def whole(*numbers):
    """Whole numbers as a list of the program's fractions."""
    return [(number, 1) for number in numbers]


def some_floors(chance, most=8):
    return [chance.randint(1, 9) for _ in range(chance.randint(1, most))]


def some_amount(chance):
    kind = chance.randrange(4)
    if kind == 0:
        return Fraction(0)
    if kind == 1:
        return Fraction(chance.randint(0, 12))
    if kind == 2:
        return Fraction(chance.randint(1, 60), chance.randint(1, 60))
    return Fraction(chance.randint(1, 10 ** 12 - 1), chance.randint(1, 60))


def some_water(chance, floors):
    return [told(some_amount(chance)) for _ in floors]


def some_bolted(chance, floors):
    flaps = [flap for flap in range(1, len(floors)) if chance.random() < 0.3]
    chance.shuffle(flaps)
    return flaps


def some_steps(chance, floors, most=5):
    return [(some_bolted(chance, floors), some_water(chance, floors)) for _ in range(chance.randint(0, most))]


def many_rows(many, seed=1):
    """Tuples (floors, water, bolted); rows of every length, and every choice of bolts on short ones."""
    chance = Random(seed)
    rows = []
    for _ in range(many):
        floors = some_floors(chance)
        rows.append((floors, some_water(chance, floors), some_bolted(chance, floors)))
    for size in range(1, 5):
        for count in range(size):
            for bolted in combinations(range(1, size), count):
                floors = [chance.randint(1, 9) for _ in range(size)]
                rows.append((floors, some_water(chance, floors), list(bolted)))
    return rows


def many_histories(many, seed=2):
    """Tuples (floors, water at first, steps)."""
    chance = Random(seed)
    found = []
    for _ in range(many):
        floors = some_floors(chance)
        found.append((floors, some_water(chance, floors), some_steps(chance, floors)))
    return found


def played(floors, water, steps):
    history = History(floors, water)
    for bolted, rain in steps:
        history.step(bolted, rain)
    return history


BOLTS = ("none", "some", "all")


def bolts_of(chance, floors, kind):
    if kind == "none":
        return []
    if kind == "all":
        return list(range(len(floors) - 1, 0, -1))
    return some_bolted(chance, floors)


def tied_water(chance, floors):
    """Water that often stands alike high, and often not at all."""
    return [told(floor * chance.choice((0, 0, 1, 1, 2))) for floor in floors]


def every_size(seed, most_tanks=8, most_steps=10):
    """Histories of each number of tanks and steps, without bolts, with some and with all; many with ties."""
    chance = Random(seed)
    found = []
    for tanks in range(1, most_tanks + 1):
        for many in range(most_steps + 1):
            for kind in BOLTS:
                water = chance.choice((some_water, tied_water))
                floors = [chance.randint(1, 9) for _ in range(tanks)]
                steps = [(bolts_of(chance, floors, kind), water(chance, floors)) for _ in range(many)]
                found.append(played(floors, water(chance, floors), steps))
    return found


def small_histories(seed, many, tanks=3, steps=2):
    """Short histories, with ties and with bolts."""
    chance = Random(seed)
    found = []
    for _ in range(many):
        water = chance.choice((some_water, tied_water, tied_water))
        floors = [chance.randint(1, 3) for _ in range(chance.randint(2, tanks))]
        played_steps = [(some_bolted(chance, floors), water(chance, floors)) for _ in range(chance.randint(0, steps))]
        found.append(played(floors, water(chance, floors), played_steps))
    return found


def heaps_of(history):
    """The heaped water at first, and the list of the heaped rains of the steps, as Fractions."""
    rains = [sums(meant(rain)) for _, rain in history.steps()]
    return sums(meant(history.water(0))), rains


def all_left(history):
    return [meant(history.left(k)) for k in range(len(history.floors()) + 1)]


def sums(numbers):
    """0, the first, the first two together, and so on to all."""
    found = [Fraction(0)]
    for number in numbers:
        found.append(found[-1] + number)
    return found


def stretch_ends(floors, bolted):
    """Tuples (first place, last place) of the stretches, by the numbers of the places."""
    cuts = [0, *sorted(bolted), len(floors)]
    return list(zip(cuts, cuts[1:]))


def lowest_chords(floors, heap, bolted):
    """At each place the lowest of all chords of its stretch over it.

    A row that never bends downwards is nowhere above its chords, so nowhere above the chords of a row that it is
    not above; and the lowest of these chords never bends downwards itself.
    """
    at = sums(floors)
    found = list(heap)
    for start, end in stretch_ends(floors, bolted):
        for k in range(start, end + 1):
            for i in range(start, k + 1):
                for j in range(max(k, i + 1), end + 1):
                    chord = heap[i] + (heap[j] - heap[i]) * (at[k] - at[i]) / (at[j] - at[i])
                    found[k] = min(found[k], chord)
    return found


def greatest_heaped(floors, water, bolted):
    """The greatest heaped row that [6] tells of."""
    return lowest_chords(floors, sums([meant(amount) for amount in water]), bolted)


def greatest_settled(floors, water, bolted):
    heap = greatest_heaped(floors, water, bolted)
    return [told(more - less) for less, more in zip(heap, heap[1:])]


def let_by(chance, floors, water, bolted, many):
    """The water after free flaps, by chance, let by all or a part of what would make their two tanks level."""
    now = meant(water)
    for _ in range(many):
        free = [k for k in range(1, len(floors)) if k not in bolted
                and now[k - 1] * floors[k] > now[k] * floors[k - 1]]
        if not free:
            break
        k = chance.choice(free)
        left, right = floors[k - 1], floors[k]
        most = (now[k - 1] * right - now[k] * left) / (left + right)
        moved = most * Fraction(chance.randint(1, 4), 4)
        now[k - 1] -= moved
        now[k] += moved
    return told(now)


def together(one, other):
    """Two rows of amounts put together, amount by amount."""
    return told([a + b for a, b in zip(meant(one), meant(other))])


def times(amounts, many):
    return told([amount * many for amount in meant(amounts)])


def parted(amounts, tank, part, floor):
    """The amounts where a tank of that floor is parted in two, the left of them with that part of the floor."""
    meant_amounts = meant(amounts)
    whole_amount = meant_amounts[tank]
    halves = [whole_amount * part / floor, whole_amount * (floor - part) / floor]
    return told(meant_amounts[:tank] + halves + meant_amounts[tank + 1:])


def with_drop(history, step, tank, drop):
    """The history with so much more rain in that tank in that step."""
    steps = history.steps()
    bolted, rain = steps[step]
    rain[tank - 1] = told(meant(rain[tank - 1]) + drop)
    return played(history.floors(), history.water(0), steps)


def shares_left(history, step, tank, drop):
    """The share of the drop that is left of each place now, by the water with it and without it."""
    ahead, behind = all_left(history), all_left(with_drop(history, step, tank, drop))
    return [told((more - less) / drop) for less, more in zip(ahead, behind)]
