"""The water of a rain, where the drops lie in it, and the certificate that shows this."""

from poolsmeet.ratios import Ratio, is_number


def settle(rain):
    """Return the water of the rain."""
    return rain(1)


def groups(rain):
    """Return, for each pool from the left, the indexes of its first and last drop."""
    return tuple([(first, last) for _, first, last in gathered(rain)])


def berths(rain):
    """Return the stretches that the drops take up in their pools, as pairs of ends."""
    found = []
    for pool, first, last in gathered(rain):
        left = pool.left
        for _, volume in rain.drops[first:last + 1]:
            found.append((left, left + volume))
            left = left + volume
    return tuple(found)


def shifts(rain):
    """Return how far the middle of each drop's berth lies to the right of its spot."""
    return tuple([middle_of(berth) - spot for (spot, _), berth in zip(rain.drops, berths(rain))])


def pushes(rain):
    """Return the pushes behind the drops."""
    found = []
    # The push behind the last drop of a pool is 0, so the sum goes on into the next pool.
    push = Ratio(0)
    for (_, volume), shift in zip(rain.drops, shifts(rain)):
        push = push - volume * shift
        found.append(push)
    return tuple(found)


def work(rain):
    """Return the work of the rain."""
    parts = [volume * shift * shift for (_, volume), shift in zip(rain.drops, shifts(rain))]
    return sum(parts, start=Ratio(0))


def layout(rain):
    """Return the certificate of the rain's water: the berths and the pushes."""
    return berths(rain), pushes(rain)


def layout_holds(rain, value):
    """Tell whether the value, of any kind, is the layout of the rain."""
    if not is_tuple_of(value, 2) or not all([is_tuple_of(part, len(rain)) for part in value]):
        return False
    stretches, levels = value
    if not all([is_stretch(item) for item in stretches]) or not all([is_number(item) for item in levels]):
        return False
    ends = [(Ratio.of(left), Ratio.of(right)) for left, right in stretches]
    return rules_hold(rain.drops, ends, [Ratio.of(level) for level in levels])


def gathered(rain):
    """Return a list with each pool, from the left, and the indexes of its first and last drop."""
    water = settle(rain)
    found = []
    first = 0
    for pool in water.pools():
        last = last_to_fill(pool.volume, rain.drops, first)
        found.append((pool, first, last))
        first = last + 1
    return found


def last_to_fill(volume, drops, first):
    """Return the index of the drop that fills the volume, if the drop with the index first begins it."""
    last = first
    missing = volume - drops[first][1]
    while missing > 0:
        last = last + 1
        missing = missing - drops[last][1]
    return last


def rules_hold(drops, stretches, levels):
    """Tell whether berths and pushes, as many as there are drops, satisfy the rules of a layout."""
    end, push = None, Ratio(0)
    for (spot, volume), (left, right), level in zip(drops, stretches, levels):
        if right - left != volume:
            return False
        if end is not None and (left < end or (left > end and push != 0)):
            return False
        if level < 0 or level - push != volume * (spot - middle_of((left, right))):
            return False
        end, push = right, level
    return push == 0


def middle_of(stretch):
    """Return the middle of a stretch between two ratios."""
    left, right = stretch
    return (left + right).over(2)


def is_tuple_of(value, many):
    """Tell whether the value is a tuple of so many items."""
    return isinstance(value, tuple) and len(value) == many


def is_stretch(item):
    """Tell whether the value is a tuple of two numbers."""
    return is_tuple_of(item, 2) and all([is_number(end) for end in item])
