"""Pools: stretches of water with a middle and a volume."""

from poolsmeet.errors import InvalidNumber
from poolsmeet.ratios import Ratio


class Pool:
    """A pool that covers a stretch as long as its volume around its middle."""

    def __init__(self, middle, volume):
        amount = Ratio.of(volume)
        if amount <= 0:
            raise InvalidNumber(volume)
        self._middle = Ratio.of(middle)
        self._volume = amount
        half = amount.over(2)
        self._left = self._middle - half
        self._right = self._middle + half

    @classmethod
    def between(cls, left, right):
        """Return the pool with these ends."""
        start, end = Ratio.of(left), Ratio.of(right)
        if end <= start:
            raise InvalidNumber(right)
        return cls((start + end).over(2), end - start)

    @property
    def middle(self):
        """The middle of the stretch, which is the centre of mass."""
        return self._middle

    @property
    def volume(self):
        """The volume, which is the length of the stretch."""
        return self._volume

    @property
    def left(self):
        """The left end of the stretch."""
        return self._left

    @property
    def right(self):
        """The right end of the stretch."""
        return self._right

    def gap_to(self, other):
        """Return the length of the dry stretch between both pools, at most 0 if they touch."""
        return abs(self.middle - other.middle) - (self.volume + other.volume).over(2)

    def touches(self, other):
        """Tell whether the pools have a common point."""
        return self.gap_to(other) <= 0

    def __add__(self, other):
        if not isinstance(other, Pool):
            return NotImplemented
        volume = self.volume + other.volume
        moment = self.volume * self.middle + other.volume * other.middle
        return Pool(moment.over(volume), volume)

    def __contains__(self, x):
        return self._left <= x <= self._right

    def __eq__(self, other):
        return isinstance(other, Pool) and self.middle == other.middle and self.volume == other.volume

    def __repr__(self):
        return f"Pool({self.middle}, {self.volume})"
