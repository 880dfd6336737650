"""The water of a rain, where the drops lie in it, and the certificate that shows this."""

from poolsmeet.blocks import blocks_of, ends_of, run_together, scale_of
from poolsmeet.ratios import Ratio, is_number


def settle(rain):
    """Return the water of the rain."""
    return rain(1)


def groups(rain):
    """Return, for each pool from the left, the indexes of its first and last drop."""
    blocks = run_together(blocks_of(rain.drops, scale_of(rain.drops)))
    return tuple([(first, last) for first, last, _, _ in blocks])


def berths(rain):
    """Return the stretches that the drops take up in their pools, as pairs of ends."""
    scale = scale_of(rain.drops)
    found = []
    for block in run_together(blocks_of(rain.drops, scale)):
        first, last, _, _ = block
        left, _ = ends_of(block, scale)
        for _, volume in rain.drops[first:last + 1]:
            right = left + volume
            found.append((left, right))
            left = right
    return tuple(found)


def shifts(rain):
    """Return how far the middle of each drop's berth lies to the right of its spot."""
    return tuple([middle_of(berth) - spot for (spot, _), berth in zip(rain.drops, berths(rain))])


def pushes(rain):
    """Return the pushes behind the drops."""
    return pushes_on(rain.drops, berths(rain))


def work(rain):
    """Return the work of the rain."""
    parts = [volume * shift * shift for (_, volume), shift in zip(rain.drops, shifts(rain))]
    return sum(parts, start=Ratio(0))


def layout(rain):
    """Return the certificate of the rain's water: the berths and the pushes."""
    stretches = berths(rain)
    return stretches, pushes_on(rain.drops, stretches)


def layout_holds(rain, value):
    """Tell whether the value, of any kind, is the layout of the rain."""
    if not is_tuple_of(value, 2) or not all([is_tuple_of(part, len(rain)) for part in value]):
        return False
    stretches, levels = value
    if not all([is_stretch(item) for item in stretches]) or not all([is_number(item) for item in levels]):
        return False
    ends = [(Ratio.of(left), Ratio.of(right)) for left, right in stretches]
    return rules_hold(rain.drops, ends, [Ratio.of(level) for level in levels])


def pushes_on(drops, stretches):
    """Return the pushes behind the drops, whose berths are the stretches."""
    found = []
    # The push behind the last drop of a pool is 0, so the sum goes on into the next pool.
    push = Ratio(0)
    for (spot, volume), stretch in zip(drops, stretches):
        push = push + volume * (spot - middle_of(stretch))
        found.append(push)
    return tuple(found)


def rules_hold(drops, stretches, levels):
    """Tell whether berths and pushes, as many as there are drops, satisfy the rules of a layout."""
    end, push = None, Ratio(0)
    for (spot, volume), (left, right), level in zip(drops, stretches, levels):
        if right - left != volume:
            return False
        if end is not None and (left < end or (left > end and push != 0)):
            return False
        if level < 0 or level - push != volume * (spot - middle_of((left, right))):
            return False
        end, push = right, level
    return push == 0


def middle_of(stretch):
    """Return the middle of a stretch between two ratios."""
    left, right = stretch
    return (left + right).over(2)


def is_tuple_of(value, many):
    """Tell whether the value is a tuple of so many items."""
    return isinstance(value, tuple) and len(value) == many


def is_stretch(item):
    """Tell whether the value is a tuple of two numbers."""
    return is_tuple_of(item, 2) and all([is_number(end) for end in item])
