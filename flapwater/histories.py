"""Histories of a row of tanks: steps of rain and bolted flaps, and the water behind each."""

from flapwater.amounts import NOUGHT, plus
from flapwater.errors import NoFlap, NoStep
from flapwater.tanks import check_bolted, check_floors, check_water, heaped, settled


class History:
    """A row of tanks with its water at first, and the steps since."""

    def __init__(self, floors, water=None):
        check_floors(floors)
        first = [NOUGHT] * len(floors) if water is None else list(water)
        check_water(floors, first)
        self._floors = list(floors)
        self._steps = []
        # The water behind each number of steps is kept, since settling cannot be worked out backwards.
        self._waters = [first]

    def __eq__(self, other):
        if not isinstance(other, History):
            return NotImplemented
        return (
            self._floors == other._floors
            and self._waters[0] == other._waters[0]
            and self._steps == other._steps
        )

    def step(self, bolted, rain):
        """Let the rain fall, and all settle while the bolted flaps let no water by."""
        check_bolted(self._floors, bolted)
        check_water(self._floors, rain)
        fallen = [plus(amount, more) for amount, more in zip(self._waters[-1], rain)]
        self._waters.append(settled(self._floors, fallen, bolted))
        self._steps.append((sorted(bolted), list(rain)))

    def undo(self):
        """Take the last step back, as if it had never been."""
        if not self._steps:
            raise NoStep(0)
        self._steps.pop()
        self._waters.pop()

    def steps(self):
        """The steps as tuples (bolted, rain), the bolted flaps rising."""
        return [(list(bolted), list(rain)) for bolted, rain in self._steps]

    def floors(self):
        """The floors of the row."""
        return list(self._floors)

    def water(self, number=None):
        """The water behind so many steps; now, where the number is left out."""
        if number is None:
            return list(self._waters[-1])
        if number not in range(len(self._waters)):
            raise NoStep(number)
        return list(self._waters[number])

    def left(self, k):
        """How much water is left of place k now."""
        if k not in range(len(self._floors) + 1):
            raise NoFlap(k)
        return heaped(self._floors, self._waters[-1])[k]
