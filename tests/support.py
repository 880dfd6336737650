"""What several test files share. Python's own fractions are the measure of all numbers."""

import unittest
from fractions import Fraction

from poolsmeet.pools import Pool
from poolsmeet.ratios import Ratio

TINY = Fraction(1, 10 ** 30)

# Tuples within tuples, as deep as a value may be, and a little less so that others may be put around it.
DEEP = (((((((("deep",),),),),),),),)
NESTED = DEEP[0][0][0]

# Values of every kind of point [1], and some lists.
ANY_VALUES = [
    0, 1, -1, 2, 10 ** 5000, -(10 ** 5000), Ratio(0), Ratio(1, 3), Ratio(-(10 ** 40), 7), True, False, None,
    "", "a", "ab", "01", "0 1", "two\nlines", "()", (), (0,), (1, "a"), ("a", 1), (True, 1), (1, True), (False, False),
    (None, None), (None, 1), (1, None), (0, 0), (1, -1), (1, Ratio(0)), (1, Ratio(-1, 2)), (1, 2, 3), ("", ""),
    ((1, 2),), ((1, 2), (3, 4)), ((1, 2), 3), (3, (1, 2)), ((), ()), ((), (), ()), (((),), ((),)), NESTED,
    (NESTED[0], NESTED[0]), [], [0, 1], [1, 2], [[], []], [(), ()], ([], []), ([], ()), ((), []), ([1, 2],),
]


def ratio(value):
    """The ratio of an integer or a fraction."""
    return Ratio(value.numerator, value.denominator)


def fraction(value):
    return Fraction(value.top, value.bottom)


def fractions(pairs):
    """Pairs of numbers as a list of pairs of fractions."""
    return [(Fraction(one), Fraction(other)) for one, other in pairs]


def pool(middle, volume):
    return Pool(ratio(Fraction(middle)), ratio(Fraction(volume)))


def pair(value):
    """The middle and the volume of a pool as fractions."""
    return fraction(value.middle), fraction(value.volume)


def stream(seed):
    """Numbers without an obvious order, the same ones in each run."""
    state = seed
    while True:
        state = (state * 1103515245 + 12345) % 2 ** 31
        yield state >> 8


def mixed(items, seed):
    """The items in another order."""
    numbers = stream(seed)
    left, out = list(items), []
    while left:
        out.append(left.pop(next(numbers) % len(left)))
    return out


def some_pairs(many, seed, width=30, bottoms=(1, 2, 3)):
    """So many pairs of a spot and a positive volume, as fractions."""
    numbers = stream(seed)
    out = []
    for _ in range(many):
        spot = Fraction(next(numbers) % (2 * width + 1) - width, bottoms[next(numbers) % len(bottoms)])
        out.append((spot, Fraction(next(numbers) % 8 + 1, bottoms[next(numbers) % len(bottoms)])))
    return out


def first_touching(pools):
    """The places of two pools (middle, volume) that touch, None if there are none."""
    for at, (middle, volume) in enumerate(pools):
        for other in range(at):
            if abs(middle - pools[other][0]) * 2 <= volume + pools[other][1]:
                return other, at
    return None


def run_together(pools):
    """The pools, pairs (middle, volume) of fractions, after they have run together, from the left."""
    pools = list(pools)
    while (found := first_touching(pools)) is not None:
        one, other = found
        second, first = pools.pop(other), pools.pop(one)
        volume = first[1] + second[1]
        pools.append(((first[0] * first[1] + second[0] * second[1]) / volume, volume))
    return sorted(pools)


class Case(unittest.TestCase):
    def assert_ratio(self, value, expected):
        self.assertIs(type(value), Ratio)
        self.assertEqual(fraction(value), expected)

    def assert_pairs(self, value, expected):
        """The value is a tuple of pairs of ratios that are equal to these numbers."""
        self.assertIs(type(value), tuple)
        for item in value:
            self.assertIs(type(item), tuple)
            self.assertEqual([type(number) for number in item], [Ratio, Ratio])
        self.assertEqual([(fraction(one), fraction(other)) for one, other in value], list(expected))

    def assert_pools(self, water, expected):
        """The pools of the water have these middles and volumes, read in each way that there is."""
        expected = list(expected)
        self.assertEqual([pair(one) for one in water.pools()], expected)
        self.assertEqual([pair(water[at]) for at in range(len(water))], expected)
        self.assertTrue(all(type(one) is Pool for one in water.pools()))

    def assert_equals_none(self, made, others):
        """The object is equal to none of the others, which are of other kinds, from either side."""
        for other in others:
            with self.subTest(other=other):
                self.assertIs(made == other, False)
                self.assertIs(other == made, False)
                self.assertIs(made != other, True)
                self.assertIs(other != made, True)

    def assert_error(self, kind, attributes, call, *arguments, **named):
        """The call raises exactly this class, with these attributes: integers, or numbers that an argument gave."""
        with self.assertRaises(kind) as caught:
            call(*arguments, **named)
        self.assertIs(type(caught.exception), kind)
        for name, expected in attributes.items():
            found = getattr(caught.exception, name)
            self.assertIn(type(found), [int] if name in ("index", "limit", "line") else [int, Ratio])
            self.assertEqual(found, expected)
