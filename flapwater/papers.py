"""Papers: rows of heights that show that no less water stands left of the places now."""

from flapwater.amounts import above, minus, share
from flapwater.errors import NoRows
from flapwater.tanks import heaped, rained, stretches


def check_rows(history, rows):
    """Refuse rows that are not one for each number of steps, or not of one height for each place."""
    if len(rows) != len(history.steps()) + 1:
        raise NoRows(None)
    for row in rows:
        if len(row) != len(history.floors()) + 1:
            raise NoRows(None)


def nowhere_above(row, other):
    """Whether the row is at no place above the other one."""
    return not any([above(height, most) for height, most in zip(row, other)])


def never_falls(heights):
    """Whether each height is no less than the one ahead."""
    return not any([above(height, further) for height, further in zip(heights, heights[1:])])


def rises_never_fall(floors, row, bolted):
    """Whether in each stretch the row's rises by floors never fall from one tank to the next."""
    rises = [share(minus(row[k + 1], row[k]), 1, floor) for k, floor in enumerate(floors)]
    return all([never_falls(rises[start:end]) for start, end in stretches(floors, bolted)])


def shows(history, rows):
    """Whether the rows show that nowhere less than their last one is left now."""
    check_rows(history, rows)
    floors = history.floors()
    if not nowhere_above(rows[0], heaped(floors, history.water(0))):
        return False
    for (bolted, rain), ahead, row in zip(history.steps(), rows, rows[1:]):
        if not nowhere_above(row, rained(floors, ahead, rain)):
            return False
        if not rises_never_fall(floors, row, bolted):
            return False
    return True


def best_rows(history):
    """Rows that show just what is left now: the heaped water at first and behind each step."""
    floors = history.floors()
    return [heaped(floors, history.water(number)) for number in range(len(history.steps()) + 1)]
