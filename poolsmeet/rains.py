"""Rain: drops that fall at spots of a line."""

from poolsmeet.blocks import in_order
from poolsmeet.errors import Full, InvalidDrop, InvalidNumber, InvalidText, InvalidTime, MissingDrop
from poolsmeet.ratios import Ratio, is_number
from poolsmeet.waters import Water, settled_pools


class Rain:
    """A collection of drops, pairs of a spot and a positive volume, in which equal drops count separately."""

    LIMIT = 40

    def __init__(self, drops=()):
        if len(drops) > self.LIMIT:
            raise Full(self.LIMIT)
        for at, item in enumerate(drops):
            if not is_drop(item):
                raise InvalidDrop(at)
        self._drops = tuple(in_order([(Ratio.of(spot), Ratio.of(volume)) for spot, volume in drops]))

    @classmethod
    def read(cls, text):
        """Return the rain whose drops are the lines of the text."""
        if text == "":
            return cls()
        found = []
        for at, line in enumerate(text.split("\n")):
            if at >= cls.LIMIT:
                raise InvalidText(at)
            found.append(read_drop(line, at))
        return cls(found)

    @property
    def drops(self):
        """All drops as pairs of ratios, in ascending order."""
        return self._drops

    @property
    def volume(self):
        """The sum of the volumes."""
        return sum([volume for _, volume in self._drops], start=Ratio(0))

    @property
    def middle(self):
        """The centre of mass, None without drops."""
        if not self._drops:
            return None
        return sum([volume * spot for spot, volume in self._drops], start=Ratio(0)).over(self.volume)

    def __call__(self, time):
        """Return the water at this time of steady rain."""
        if time < 0:
            raise InvalidTime(time)
        if time == 0:
            return Water()
        return Water(settled_pools([(spot, volume * time) for spot, volume in self._drops]))

    def __contains__(self, x):
        return x in self._drops

    def __len__(self):
        return len(self._drops)

    def __bool__(self):
        return bool(self._drops)

    def __abs__(self):
        return self.volume

    def __add__(self, other):
        if not isinstance(other, Rain):
            return NotImplemented
        return Rain(self._drops + other._drops)

    def __sub__(self, other):
        if not isinstance(other, Rain):
            return NotImplemented
        remaining = list(self._drops)
        for spot, volume in other._drops:
            if (spot, volume) not in remaining:
                raise MissingDrop(spot, volume)
            remaining.remove((spot, volume))
        return Rain(remaining)

    def __mul__(self, other):
        if not is_number(other):
            return NotImplemented
        if other <= 0:
            raise InvalidNumber(other)
        return Rain([(spot, volume * other) for spot, volume in self._drops])

    def __rmul__(self, other):
        return self * other

    def __rshift__(self, other):
        if not is_number(other):
            return NotImplemented
        return Rain([(spot + other, volume) for spot, volume in self._drops])

    def __lshift__(self, other):
        if not is_number(other):
            return NotImplemented
        return self >> -other

    def __neg__(self):
        return Rain([(-spot, volume) for spot, volume in self._drops])

    def __eq__(self, other):
        return isinstance(other, Rain) and self._drops == other._drops

    def __str__(self):
        return "\n".join([f"{spot} {volume}" for spot, volume in self._drops])

    def __repr__(self):
        return f"Rain({len(self._drops)})"


def is_drop(item):
    """Tell whether the value is a tuple of two numbers, the second of which is positive."""
    if not isinstance(item, tuple) or len(item) != 2:
        return False
    spot, volume = item
    return is_number(spot) and is_number(volume) and volume > 0


def read_drop(line, at):
    """Return the drop that is written in the line with this index."""
    first, _, second = line.partition(" ")
    try:
        spot, volume = Ratio.read(first), Ratio.read(second)
    except InvalidNumber:
        raise InvalidText(at) from None
    if volume <= 0:
        raise InvalidText(at)
    return spot, volume
