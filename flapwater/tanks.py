"""A row of tanks: its places, its heaped water, and how water settles in it."""

from flapwater.amounts import NOUGHT, above, plus, share, sums
from flapwater.errors import NoFlap, NoFloors, NoWater


def check_floors(floors):
    """Refuse a row without tanks, or with a floor below 1."""
    if len(floors) == 0:
        raise NoFloors(None)
    for number, floor in enumerate(floors):
        if floor < 1:
            raise NoFloors(number)


def check_water(floors, water):
    """Refuse water that is not one amount for each tank, or that has an amount below 0."""
    if len(water) != len(floors):
        raise NoWater(None)
    for number, amount in enumerate(water):
        if above(NOUGHT, amount):
            raise NoWater(number)


def check_bolted(floors, bolted):
    """Refuse flaps that the row has not, or that are named twice."""
    for at, flap in enumerate(bolted):
        if flap not in range(1, len(floors)) or flap in bolted[:at]:
            raise NoFlap(flap)


def places(floors):
    """The places from 0 to the right end: place k is flap k's."""
    check_floors(floors)
    told = [0]
    for floor in floors:
        told.append(told[-1] + floor)
    return told


def heaped(floors, water):
    """How much water there is in the first k tanks, for k from 0 to all."""
    check_floors(floors)
    check_water(floors, water)
    return sums(water)


def rained(floors, row, rain):
    """The row of heights, one for each place, with the heaped rain upon it."""
    return [plus(height, more) for height, more in zip(row, heaped(floors, rain))]


def stretches(floors, bolted):
    """Tuples (start, end), in Python's counting, of the tanks between bolted flaps, from left to right."""
    cuts = [0] + sorted(bolted) + [len(floors)]
    return list(zip(cuts, cuts[1:]))


def pool_height(pool):
    """How high water stands in a pool, a tuple (floors, amount)."""
    floors, amount = pool
    return share(amount, 1, sum(floors))


def pooled(floors, water):
    """The pools, from left to right, in which the water of one stretch stands level at rest.

    Where a pool stands higher than the next one, its last flap lets water by until both are level. Whatever is
    let by afterwards leaves them so: from then on they are one pool, and may stand lower than the one ahead.
    """
    pools = []
    for floor, amount in zip(floors, water):
        pool = ([floor], amount)
        while pools and above(pool_height(pools[-1]), pool_height(pool)):
            floors_ahead, amount_ahead = pools.pop()
            pool = (floors_ahead + pool[0], plus(amount_ahead, pool[1]))
        pools.append(pool)
    return pools


def at_rest(floors, water, bolted):
    """The water settled, where nothing needs to be refused; the amounts may be below 0."""
    rest = []
    for start, end in stretches(floors, bolted):
        for level_floors, amount in pooled(floors[start:end], water[start:end]):
            whole = sum(level_floors)
            rest.extend([share(amount, floor, whole) for floor in level_floors])
    return rest


def settled(floors, water, bolted=()):
    """The water at the one rest to which it comes while the bolted flaps let none by."""
    check_floors(floors)
    check_water(floors, water)
    check_bolted(floors, bolted)
    return at_rest(floors, water, bolted)
