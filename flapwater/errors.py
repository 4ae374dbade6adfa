"""The refusals. Each keeps as `what` the value that tells what is refused."""


class FlapError(ValueError):
    """Any refusal."""


class NoFloors(FlapError):
    """The floors: the number of the first below 1, or None where there is no tank."""

    def __init__(self, what):
        super().__init__("there is no tank, or a floor is below 1")
        self.what = what


class NoWater(FlapError):
    """The water: the number of the first amount below 0, or None where there are not as many as tanks."""

    def __init__(self, what):
        super().__init__("the amounts are not as many as the tanks, or one is below 0")
        self.what = what


class NoFlap(FlapError):
    """The flap or place that there is not, or the flap that is named twice."""

    def __init__(self, what):
        super().__init__("there is no such flap or place, or it is named twice")
        self.what = what


class NoStep(FlapError):
    """The number of the step that there is not."""

    def __init__(self, what):
        super().__init__("there is no such step")
        self.what = what


class NoTable(FlapError):
    """The table: (step, place) of the first lot that is not fair, or None where its form is not the history's."""

    def __init__(self, what):
        super().__init__("a lot is not fair, or the table is not of the history's form")
        self.what = what


class NoRows(FlapError):
    """The rows of heights, told with None."""

    def __init__(self, what):
        super().__init__("the rows are not of the history's form")
        self.what = what


class NoDrop(FlapError):
    """The drop less where no rain falls, told with None."""

    def __init__(self, what):
        super().__init__("no rain falls there that could be less")
        self.what = what


class NoTank(FlapError):
    """The number of the tank that there is not."""

    def __init__(self, what):
        super().__init__("there is no such tank")
        self.what = what


class NoRain(FlapError):
    """The number of the first rain whose tank there is not, or whose amount isn't above 0."""

    def __init__(self, what):
        super().__init__("a rain has no tank, or no amount above 0")
        self.what = what


class NoOrder(FlapError):
    """The order in which not each rain stands once, told with None."""

    def __init__(self, what):
        super().__init__("the order does not name each rain once")
        self.what = what


class NoText(FlapError):
    """The text that writes nothing."""

    def __init__(self, what):
        super().__init__("the text writes nothing that can be read")
        self.what = what
