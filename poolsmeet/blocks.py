"""What the other modules share: the order of pairs of ratios, and blocks of drops that run together.

A block is a pool as a tuple of four integers (first, last, volume, pull): the indexes of its first and last drop, its
volume, and its pull, which is twice its volume times its middle. Lengths are counted in units so small that all spots
and volumes are whole; the scale tells how many units make 1. So a block is as exact as a pool, but integers take far
less time than ratios.
"""

from math import lcm

from poolsmeet.ratios import Ratio


def in_order(pairs):
    """Return a new list of the pairs of ratios in ascending order of the first ratio, then of the second."""
    scale = scale_of(pairs)
    # Sorting by the first ratio leaves the pairs that are equal there in the order of the second.
    rows = sorted_by([scaled(second, scale) for _, second in pairs], pairs)
    return sorted_by([scaled(first, scale) for first, _ in rows], rows)


def sorted_by(levels, items):
    """Return a new list of the items in ascending order of their levels, integers; equal levels keep their order."""
    many = len(items)
    # Ratios bring an order of their own, and beside it sorted is left to plain integers. So each level gets the place
    # of its item as a last digit.
    ranks = sorted([int(level * many + at) for at, level in enumerate(levels)])
    return [items[rank % many] for rank in ranks]


def scale_of(pairs):
    """Return the least scale in which both ratios of each pair are whole."""
    scale = 1
    for one, other in pairs:
        scale = lcm(scale, one.bottom, other.bottom)
    return scale


def scaled(ratio, scale):
    """Return how many units of this scale the ratio has."""
    return ratio.top * (scale // ratio.bottom)


def blocks_of(pairs, scale):
    """Return a block for each of the pairs (middle, volume) of ratios, which are in order."""
    found = []
    for at, (middle, volume) in enumerate(pairs):
        amount = scaled(volume, scale)
        found.append((at, at, amount, 2 * amount * scaled(middle, scale)))
    return found


def joined(one, other):
    """Return the block of both blocks, which follow one another."""
    first, _, volume, pull = one
    _, last, more, further = other
    return first, last, volume + more, pull + further


def moved(block, way):
    """Return the block, moved to the right by so many units."""
    first, last, volume, pull = block
    return first, last, volume, pull + 2 * volume * way


def holds(block, one, other):
    """Tell whether the drops with these two indexes are both in the block."""
    first, last, _, _ = block
    return first <= one <= last and first <= other <= last


def touch(one, other):
    """Tell whether two blocks have a common point; the middle of the other is not left of that of the one."""
    _, _, volume, pull = one
    _, _, more, further = other
    # The right end of the one, and the left end of the other, both times twice the product of the volumes.
    return (pull + volume * volume) * more >= (further - more * more) * volume


def held(block, walls):
    """Return the block, laid against a wall if it would reach beyond it; the walls may be None."""
    if walls is None:
        return block
    first, last, volume, pull = block
    low, high = walls
    least = volume * (2 * low + volume)
    most = volume * (2 * high - volume)
    if pull < least:
        return first, last, volume, least
    if pull > most:
        return first, last, volume, most
    return block


def run_together(blocks, walls=None):
    """Return a list of the blocks, which are in order, after those that touch have run together.

    The walls are None, or the ends of a trough that the blocks do not overfill.
    """
    standing = []
    for block in blocks:
        # A block at a wall counts with the pull that it has there, not with that of its drops. This makes no difference
        # to what is covered: whatever touches such a block and runs together with it stays at the wall in either way.
        fallen = held(block, walls)
        # A block that does not touch the last one that stands touches none of those before it.
        while standing and touch(standing[-1], fallen):
            fallen = held(joined(standing.pop(), fallen), walls)
        standing.append(fallen)
    return standing


def run_around(blocks, length):
    """Return a list of the blocks, which are in order, after those that touch on a ring have run together.

    They do not flood the ring. The first of them begins again behind the last one, at a distance of the length.
    """
    standing = run_together(blocks)
    while standing and touch(standing[-1], moved(standing[0], length)):
        standing = run_together([*standing[1:], moved(standing[0], length)])
    return standing


def ends_of(block, scale):
    """Return the ends of the stretch that the block covers, as a pair of ratios."""
    _, _, volume, pull = block
    square = volume * volume
    return Ratio(pull - square, 2 * volume * scale), Ratio(pull + square, 2 * volume * scale)


def covers_on_line(drops):
    """Return the covers of the pools of these drops on an endless line, from the left."""
    scale = scale_of(drops)
    blocks = run_together(blocks_of(in_order(drops), scale))
    return tuple([ends_of(block, scale) for block in blocks])


def covers_in_trough(drops, low, high):
    """Return the covers of the pools of these drops between two walls, from the left."""
    scale = lcm(scale_of(drops), low.bottom, high.bottom)
    blocks = run_together(blocks_of(in_order(drops), scale), (scaled(low, scale), scaled(high, scale)))
    return tuple([ends_of(block, scale) for block in blocks])


def covers_on_ring(drops, length):
    """Return the covers of the pools of these drops on a ring that they do not flood, by their left ends."""
    scale = lcm(scale_of(drops), length.bottom)
    around = scaled(length, scale)
    blocks = run_around(blocks_of(in_order(drops), scale), around)
    return tuple(in_order([ends_of(begun_in_round(block, around), scale) for block in blocks]))


def begun_in_round(block, length):
    """Return the block, moved by so many whole rounds that it begins from 0 to below the length."""
    _, _, volume, pull = block
    rounds = (pull - volume * volume) // (2 * volume * length)
    return moved(block, -rounds * length)


def is_covered(spot, stretches):
    """Tell whether one of the stretches covers the spot."""
    for left, right in stretches:
        if left <= spot <= right:
            return True
    return False
