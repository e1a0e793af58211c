"""All errors that the package raises."""


class NoPoint(LookupError):
    """A number that is no point of the ring."""

    def __init__(self, point):
        self.point = point


class NoLine(LookupError):
    """A line that is none of those that are asked for."""

    def __init__(self, line):
        self.line = line


class NoStar(LookupError):
    """A star that is not in the lot."""

    def __init__(self, star):
        self.star = star


class NothingDone(LookupError):
    """Nothing is there to be taken back, or to be done once more."""


class BadText(ValueError):
    """A text that is not as told, by the number of its line."""

    def __init__(self, line):
        self.line = line


class Broken(ValueError):
    """A row of exchanges that leads no further, by the number of the one that fails."""

    def __init__(self, number):
        self.number = number


class CanNot(ValueError):
    """What is asked for is not there, or cannot be done."""


class TooMany(ValueError):
    """There are more of them than are told."""


class Unfit(ValueError):
    """A value that is not what the argument asks for."""
