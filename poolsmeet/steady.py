"""Steady rain: when the pools of a rain run together, and when a spot becomes wet."""

from math import lcm

from poolsmeet.blocks import blocks_of, holds, joined, scale_of, scaled
from poolsmeet.errors import UnknownIndex
from poolsmeet.ratios import Ratio


def runnings(rain):
    """Give (time, first, last) for each pool to which others run together, in order of the time, then of first."""
    for time, block in history(rain, scale_of(rain.drops)):
        first, last, _, _ = block
        if first < last:
            yield time, first, last


def joined_from(rain, one, other):
    """Return the least time after which the drops with these two indexes are in one pool at all times."""
    check_indexes(rain, one, other)
    times = [time for time, block in history(rain, scale_of(rain.drops)) if holds(block, one, other)]
    return times[0]


def wet_from(rain, spot):
    """Return the least time after which the spot is wet, and the first and last drop of its pool at this time."""
    place = Ratio.of(spot)
    scale = lcm(scale_of(rain.drops), place.bottom)
    at = scaled(place, scale)
    found = None
    # Even when a pool has run together with others, all that it would cover by itself is wet: more rain never makes a
    # wet spot dry. So the spot is wet from the first time at which a pool, growing by itself, reaches it. Of the pools
    # that reach it at this time, the last one holds the others.
    for start, block in history(rain, scale):
        first, last, volume, pull = block
        time = Ratio(abs(2 * volume * at - pull), volume * volume)
        if time < start:
            time = start
        if found is None or time <= found[0]:
            found = time, first, last
    return found


def check_indexes(rain, one, other):
    """Raise UnknownIndex for the first of two indexes that no drop of the rain has."""
    for index in (one, other):
        if not 0 <= index < len(rain):
            raise UnknownIndex(index)


def history(rain, scale):
    """Return a list of pairs (time, block): all pools that stand in steady rain, and the time from which each stands.

    The times ascend, and pools that stand from the same time on lie from the left; but each drop alone comes first,
    at the time 0. The volume of a block is that of the pool at the time 1.
    """
    standing = blocks_of(rain.drops, scale)
    found = [(Ratio(0), block) for block in standing]
    times = [meeting(one, other) for one, other in zip(standing, standing[1:])]
    while times:
        at = place_of_least(times)
        time, block = times[at], joined(standing[at], standing[at + 1])
        # More than two pools that run together at one time are joined two by two; only the last block of them stands.
        last_time, last_block = found[-1]
        if last_time == time and last_block[0] == block[0]:
            found.pop()
        found.append((time, block))
        standing[at:at + 2] = [block]
        del times[at]
        if at > 0:
            times[at - 1] = meeting(standing[at - 1], block)
        if at < len(times):
            times[at] = meeting(block, standing[at + 1])
    return found


def meeting(one, other):
    """Return the time at which two neighbouring pools touch, the one on the left first."""
    _, _, volume, pull = one
    _, _, more, further = other
    return Ratio(further * volume - pull * more, volume * more * (volume + more))


def place_of_least(times):
    """Return the place of the least of the times, the first one of those that are equal."""
    least = 0
    for at, time in enumerate(times):
        if time < times[least]:
            least = at
    return least
