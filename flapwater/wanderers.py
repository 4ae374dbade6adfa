"""Wanderers: tables of fair lots, what is paid by them, and one by which the least is paid."""

from flapwater.amounts import lowest, one_bottom
from flapwater.errors import NoFlap, NoTable
from flapwater.papers import best_rows
from flapwater.tanks import heaped, places, rained, stretches


def reach(floors, bolted, k):
    """The first and the last place to which a wanderer may go from place k."""
    for start, end in stretches(floors, bolted):
        if start < k < end:
            return start, end
    return k, k


def rises_within(lot, first, last):
    """Whether the lot's places rise, each once, and none lies ahead of the first or beyond the last."""
    goals = [place for place, _ in lot]
    bounds = [first - 1] + goals + [last + 1]
    return all([low < high for low, high in zip(bounds, bounds[1:])])


def is_fair(lot, at, k, first, last):
    """Whether the lot is fair to who stands at place k and may go from the first place to the last."""
    if not rises_within(lot, first, last):
        return False
    tops, bottom = one_bottom([chance for _, chance in lot])
    if any([top <= 0 for top in tops]) or sum(tops) != bottom:
        return False
    return sum([top * at[place] for top, (place, _) in zip(tops, lot)]) == bottom * at[k]


def check_table(history, table):
    """Refuse a table that is not of the history's form, or that has a lot that is not fair."""
    floors, steps = history.floors(), history.steps()
    at = places(floors)
    if len(table) != len(steps) or any([len(lots) != len(at) for lots in table]):
        raise NoTable(None)
    for number, lots in enumerate(table):
        bolted, _ = steps[number]
        for k, lot in enumerate(lots):
            first, last = reach(floors, bolted, k)
            if not is_fair(lot, at, k, first, last):
                raise NoTable((number, k))


def drawn(lots, paid):
    """What is paid on average by each lot, where so much is paid at each place: tops over one bottom, and that."""
    _, bottom = one_bottom([chance for each in lots for _, chance in each])
    tops = []
    for lot in lots:
        tops.append(sum([top * (bottom // own) * paid[place] for place, (top, own) in lot]))
    return tops, bottom


def price(history, table, k):
    """What a wanderer from place k pays on average by the table."""
    check_table(history, table)
    floors = history.floors()
    if k not in range(len(floors) + 1):
        raise NoFlap(k)
    # Chances may have hundreds of figures: all prices share one bottom, and only the told one is put in lowest terms.
    prices, bottom = one_bottom(heaped(floors, history.water(0)))
    for (_, rain), lots in zip(history.steps(), table):
        heights, under = one_bottom(heaped(floors, rain))
        paid = [top * under + height * bottom for top, height in zip(prices, heights)]
        prices, whole = drawn(lots, paid)
        bottom = bottom * under * whole
    return lowest(prices[k], bottom)


def still_places(history):
    """For each step the places past which no water came while it settled, both ends among them."""
    floors, rows = history.floors(), best_rows(history)
    found = []
    for (_, rain), ahead, row in zip(history.steps(), rows, rows[1:]):
        fallen = rained(floors, ahead, rain)
        found.append([k for k, height in enumerate(row) if height == fallen[k]])
    return found


def best_lot(at, still, k):
    """Who stands at a still place stays; else the lot is between the next still ones on both sides.

    Between these the water is level, so that what is left of the places lies there on the chord.
    """
    if k in still:
        return [(k, (1, 1))]
    low = max([place for place in still if place < k])
    high = min([place for place in still if place > k])
    whole = at[high] - at[low]
    return [(low, lowest(at[high] - at[k], whole)), (high, lowest(at[k] - at[low], whole))]


def best_table(history):
    """A table by which each place's price is just what is left of it now."""
    at = places(history.floors())
    return [[best_lot(at, still, k) for k in range(len(at))] for still in still_places(history)]
