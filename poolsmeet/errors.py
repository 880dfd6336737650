"""The errors that Poolsmeet raises.

Each error keeps its arguments in attributes of the same names. None of them puts an argument into a
message, because an argument may be an integer too long to be written as a text.
"""


class PoolError(ValueError):
    """The base class of all errors of the package but UnknownIndex."""


class InvalidNumber(PoolError):
    """A value is not a number, or not one that is allowed here."""

    def __init__(self, value):
        self.value = value


class InvalidDrop(PoolError):
    """The item with this index is not a drop."""

    def __init__(self, index):
        self.index = index


class InvalidTime(PoolError):
    """A time is negative."""

    def __init__(self, time):
        self.time = time


class InvalidText(PoolError):
    """The line with this index is not the line of a drop."""

    def __init__(self, line):
        self.line = line


class InvalidCommand(PoolError):
    """A command is not of a form that the desk knows."""


class Full(PoolError):
    """There would be more drops than the limit."""

    def __init__(self, limit):
        self.limit = limit


class MissingDrop(PoolError):
    """A drop that shall be taken away is not there."""

    def __init__(self, spot, amount):
        self.spot = spot
        self.amount = amount


class Touching(PoolError):
    """The pool with this index is not to the right of the pool before it, apart from it."""

    def __init__(self, index):
        self.index = index


class OutOfGround(PoolError):
    """A spot is not between the sides of a trough."""

    def __init__(self, spot):
        self.spot = spot


class Overfull(PoolError):
    """The volume would be greater than the width of the trough."""

    def __init__(self, total):
        self.total = total


class TrialError(PoolError):
    """A trial is kept outside of its block, or entered again."""


class UnknownIndex(IndexError):
    """There is nothing with this index."""

    def __init__(self, index):
        self.index = index
