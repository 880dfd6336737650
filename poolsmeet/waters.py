"""Water: pools on a line, no two of which touch."""

from poolsmeet.blocks import blocks_of, in_order, run_together, scale_of
from poolsmeet.errors import Touching, UnknownIndex
from poolsmeet.pools import Pool
from poolsmeet.ratios import Ratio, is_number

COLUMNS = 12


class Water:
    """The pools that stand on a line, from the left, no two of which touch."""

    def __init__(self, pools=()):
        for at in range(1, len(pools)):
            if pools[at].left <= pools[at - 1].right:
                raise Touching(at)
        self._pools = tuple(pools)

    @classmethod
    def settled(cls, pools):
        """Return the water that remains when the pools, in any order, have run together."""
        return cls(settled_pools(in_order([(pool.middle, pool.volume) for pool in pools])))

    def pools(self):
        """Give the pools, from the left."""
        for pool in self._pools:
            yield pool

    def gaps(self):
        """Give the ends of the dry stretches between neighbouring pools, from the left."""
        for before, after in zip(self._pools, self._pools[1:]):
            yield before.right, after.left

    @property
    def volume(self):
        """The volume of all pools."""
        return sum([pool.volume for pool in self._pools], start=Ratio(0))

    @property
    def left(self):
        """The left end of the first pool, None without pools."""
        return self._pools[0].left if self._pools else None

    @property
    def right(self):
        """The right end of the last pool, None without pools."""
        return self._pools[-1].right if self._pools else None

    def __call__(self, spot):
        """Return the index of the pool that covers the spot, None if the spot is dry."""
        return place_of(spot, self._pools)

    def __contains__(self, x):
        return place_of(x, self._pools) is not None

    def __getitem__(self, at):
        if not 0 <= at < len(self._pools):
            raise UnknownIndex(at)
        return self._pools[at]

    def __iter__(self):
        raise TypeError("a water is not iterated over, its pools() are")

    def __len__(self):
        return len(self._pools)

    def __bool__(self):
        return bool(self._pools)

    def __abs__(self):
        return self.volume

    def __add__(self, other):
        if not isinstance(other, Water):
            return NotImplemented
        return Water.settled(self._pools + other._pools)

    def __eq__(self, other):
        return isinstance(other, Water) and self._pools == other._pools

    def __le__(self, other):
        if not isinstance(other, Water):
            return NotImplemented
        return lie_within(self._pools, other._pools)

    def __lt__(self, other):
        if not isinstance(other, Water):
            return NotImplemented
        return self <= other and not self == other

    def __ge__(self, other):
        if not isinstance(other, Water):
            return NotImplemented
        return other <= self

    def __gt__(self, other):
        if not isinstance(other, Water):
            return NotImplemented
        return other < self

    def __rshift__(self, other):
        if not is_number(other):
            return NotImplemented
        return Water([Pool(pool.middle + other, pool.volume) for pool in self._pools])

    def __lshift__(self, other):
        if not is_number(other):
            return NotImplemented
        return self >> -other

    def __neg__(self):
        return Water([Pool(-pool.middle, pool.volume) for pool in self._pools[::-1]])

    def __str__(self):
        if not self._pools:
            return "dry"
        return "\n".join([row_of(pool) for pool in self._pools])

    def __repr__(self):
        return f"Water({len(self._pools)})"


def settled_pools(pairs):
    """Return a list of the pools that the pairs (middle, volume), which are in order, run together to."""
    scale = scale_of(pairs)
    blocks = run_together(blocks_of(pairs, scale))
    return [Pool(Ratio(pull, 2 * volume * scale), Ratio(volume, scale)) for _, _, volume, pull in blocks]


def place_of(spot, pools):
    """Return the index of the pool that covers the spot, None if there is none."""
    for at, pool in enumerate(pools):
        if spot in pool:
            return at
    return None


def lie_within(pools, others):
    """Tell whether each pool lies in one of the others; both are in order, and no two of the others touch."""
    # Others that do not touch cannot cover a pool together, and one that ends before a pool ends is passed for good.
    at = 0
    for pool in pools:
        while at < len(others) and others[at].right < pool.right:
            at = at + 1
        if at == len(others) or pool.left < others[at].left:
            return False
    return True


def row_of(pool):
    """Return the line of the pool in the text of a water."""
    return " ".join([str(number).rjust(COLUMNS) for number in (pool.left, pool.right, pool.volume)])
