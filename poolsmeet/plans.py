"""Plans: how much more water joins two drops, and how much room there is beside the water."""

from math import isqrt, lcm

from poolsmeet.blocks import blocks_of, holds, joined, moved, run_together, scale_of, scaled
from poolsmeet.ratios import Ratio
from poolsmeet.steady import check_indexes


def least_volume(rain, spot, one, other):
    """Return the least integer volume of one more drop at the spot that brings the two drops into one pool."""
    check_indexes(rain, one, other)
    place = Ratio.of(spot)
    scale = lcm(scale_of(rain.drops), place.bottom)
    # The spot is 0 from here on.
    blocks = [moved(block, -scaled(place, scale)) for block in run_together(blocks_of(rain.drops, scale))]
    if any([holds(block, one, other) for block in blocks]):
        return 0
    return volume_to_join(blocks, one, other, scale)


def room_at(water, spot):
    """Return the least upper bound of the volumes of pools around the spot that do not touch the water."""
    room = None
    for pool in water.pools():
        found = distance(spot, pool) * 2
        if room is None or found < room:
            room = found
    return room


def volume_to_join(blocks, one, other, scale):
    """Return the least integer volume of a drop at 0 that runs together with the blocks of both drops."""
    lefts = [block for block in blocks if block[3] < 0]
    rights = [block for block in blocks if block[3] >= 0]
    # The pool around 0 without its new drop. At first it holds nothing: it begins behind the lefts, and ends there.
    last = lefts[-1][1] if lefts else -1
    grown = last + 1, last, 0, 0
    least = 0
    while not holds(grown, one, other):
        to_left = reach(mirrored(grown), mirrored(lefts[-1]), scale) if lefts else None
        to_right = reach(grown, rights[0], scale) if rights else None
        if to_right is None or (to_left is not None and to_left < to_right):
            needed, grown = to_left, joined(lefts.pop(), grown)
        else:
            needed, grown = to_right, joined(grown, rights.pop(0))
        if needed > least:
            least = needed
    return least


def mirrored(block):
    """Return the mirror image of the block; the indexes stay."""
    first, last, volume, pull = block
    return first, last, volume, -pull


def reach(grown, block, scale):
    """Return the least integer volume of a drop at 0 with which it and the grown block touch the block to their right.

    They are in one pool, and the block is its neighbour; or the grown block is empty, and the block may cover 0.
    """
    _, _, grown_volume, grown_pull = grown
    _, _, volume, pull = block
    # With the volume V in all, the pool ends at grown_pull / (2 V) + V / 2, and the block begins at edge / (2 volume).
    # The pool grows with V, so that they touch from the greater root of an equation on. There is one: wherever a pool
    # ends, it is not before the square root of grown_pull, and the block begins behind the end of the last one that
    # the pool has reached.
    edge = pull - volume * volume
    square = edge * edge - 4 * volume * volume * grown_pull
    return rounded_up(edge - 2 * volume * grown_volume + root_up(square), 2 * volume * scale)


def root_up(square):
    """Return the least integer from 0 whose square is at least this one."""
    root = isqrt(square)
    return root if root * root == square else root + 1


def rounded_up(top, bottom):
    """Return the least integer that is at least the quotient."""
    return -(-top // bottom)


def distance(spot, pool):
    """Return how far the spot is from the pool, 0 within it."""
    if spot < pool.left:
        return pool.left - spot
    if spot > pool.right:
        return spot - pool.right
    return Ratio(0)
