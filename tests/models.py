"""Reference models for steady rain and grounds: each does what a definition says, step by step, with fractions."""

from fractions import Fraction
from itertools import accumulate


def mean(drops):
    """The centre of mass of drops (spot, volume)."""
    return sum(spot * volume for spot, volume in drops) / total(drops)


def total(drops):
    return sum((volume for _, volume in drops), Fraction(0))


class Line:
    """An endless line. Its pools are lists of drops; they run together in an order that the numbers choose."""

    def __init__(self, numbers=None):
        self.numbers = numbers

    def cover(self, pool):
        half = total(pool) / 2
        return mean(pool) - half, mean(pool) + half

    def meet(self, one, other):
        """The pool of both if they touch, else None."""
        (left, right), (low, high) = self.cover(one), self.cover(other)
        return one + other if left <= high and low <= right else None

    def pools(self, drops):
        pools = [[drop] for drop in drops]
        while (step := self.next_step(pools)) is not None:
            one, other, both = step
            pools = [pool for at, pool in enumerate(pools) if at not in (one, other)] + [both]
        return pools

    def next_step(self, pools):
        """The places of two pools that touch, and their pool: the first ones, or any two by the numbers."""
        found = []
        for one in range(len(pools)):
            for other in range(one):
                both = self.meet(pools[one], pools[other])
                if both is not None:
                    if self.numbers is None:
                        return one, other, both
                    found.append((one, other, both))
        return found[next(self.numbers) % len(found)] if found else None

    def stretches(self, drops):
        return sorted(self.cover(pool) for pool in self.pools(drops))

    def is_wet(self, stretches, spot):
        return any(left <= spot <= right for left, right in stretches)


class Walls(Line):
    """A trough."""

    def __init__(self, left, right, numbers=None):
        super().__init__(numbers)
        self.left, self.right = left, right

    def cover(self, pool):
        volume = total(pool)
        left, right = super().cover(pool)
        if left < self.left:
            return self.left, self.left + volume
        if right > self.right:
            return self.right - volume, self.right
        return left, right


class Round(Line):
    """A ring. The spots of the drops of a pool are those along its stretch, so not all of them are remainders."""

    def __init__(self, length, numbers=None):
        super().__init__(numbers)
        self.length = length

    def meet(self, one, other):
        rounds = (mean(one) - mean(other)) // self.length
        for way in range(rounds - 1, rounds + 3):
            turned = [(spot + way * self.length, volume) for spot, volume in other]
            if super().meet(one, turned) is not None:
                return one + turned
        return None

    def stretches(self, drops):
        if total(drops) >= self.length:
            return [(Fraction(0), self.length)]
        turned = [(spot % self.length, volume) for spot, volume in drops]
        found = [(left % self.length, right - left) for left, right in super().stretches(turned)]
        return sorted((left, left + volume) for left, volume in found)

    def is_wet(self, stretches, spot):
        spot %= self.length
        return super().is_wet(stretches, spot) or super().is_wet(stretches, spot + self.length)


def closing_times(drops):
    """For each two neighbouring drops, in order, the time from which they are in one pool.

    They are apart as long as every pool of drops that ends with the first one would be apart from every pool of drops
    that begins with the second one.
    """
    drops = sorted(drops)
    volumes = list(accumulate((volume for _, volume in drops), initial=Fraction(0)))
    moments = list(accumulate((spot * volume for spot, volume in drops), initial=Fraction(0)))

    def middle(first, behind):
        return (moments[behind] - moments[first]) / (volumes[behind] - volumes[first])

    found = []
    for cut in range(1, len(drops)):
        lefts = [(first, middle(first, cut)) for first in range(cut)]
        rights = [(behind, middle(cut, behind)) for behind in range(cut + 1, len(drops) + 1)]
        found.append(min(
            2 * (right - left) / (volumes[behind] - volumes[first]) for first, left in lefts for behind, right in rights
        ))
    return found


def groups_at(times, time):
    """The first and last drops of the pools at a time, by the closing times."""
    found, first = [], 0
    for at, closing in enumerate([*times, None]):
        if closing is None or closing > time:
            found.append((first, at))
            first = at + 1
    return found


def runnings_of(times):
    """The triples of all runnings, by the closing times."""
    found = []
    for time in sorted(set(times)):
        found += [(time, first, last) for first, last in groups_at(times, time) if time in times[first:last]]
    return found


def indexes_in_pools(drops, spot, volume):
    """The sets of indexes of the drops in each pool after one more drop has fallen (none if the volume is 0)."""
    items = [(*drop, at) for at, drop in enumerate(sorted(drops))]
    if volume > 0:
        items.append((spot, volume, None))
    standing = []
    for middle, amount, at in sorted(items, key=lambda item: item[0]):
        moment, members = middle * amount, {at}
        while standing and 2 * (moment / amount - standing[-1][0] / standing[-1][1]) <= amount + standing[-1][1]:
            more, further, others = standing.pop()
            moment, amount, members = moment + more, amount + further, members | others
        standing.append((moment, amount, members))
    return [members - {None} for _, _, members in standing]
