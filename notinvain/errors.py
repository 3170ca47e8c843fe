"""The errors that the package raises."""


class NoPlace(LookupError):
    """There is no such PLACE."""

    def __init__(self, place):
        self.place = place


class NoCell(LookupError):
    """There is no such CELL."""

    def __init__(self, cell):
        self.cell = cell


class NoNumber(LookupError):
    """Nothing is told by this number."""

    def __init__(self, number):
        self.number = number


class NothingDone(LookupError):
    """There is no deed to take back, or to do again."""

    def __init__(self):
        LookupError.__init__(self)


class BadLine(ValueError):
    """The line with this number cannot stand there."""

    def __init__(self, number):
        self.number = number


class CanNot(ValueError):
    """What was asked for cannot be done, or is not there."""

    def __init__(self):
        ValueError.__init__(self)


class TooMany(ValueError):
    """It would be too much."""

    def __init__(self):
        ValueError.__init__(self)


class Unfit(ValueError):
    """What was passed does not fit together."""

    def __init__(self):
        ValueError.__init__(self)
