"""Points [5], [11] and [12]: pools. Python's own fractions are the measure."""

import unittest
from fractions import Fraction

from poolsmeet.errors import InvalidNumber
from poolsmeet.pools import Pool
from poolsmeet.ratios import Ratio
from support import TINY, Case, fraction, pair, pool, ratio

MIDDLES = [Fraction(-7, 2), Fraction(-1), Fraction(0), Fraction(1, 3), Fraction(2), Fraction(10 ** 9)]
VOLUMES = [Fraction(1, 1000), Fraction(2, 3), Fraction(1), Fraction(7), Fraction(10 ** 9)]
PAIRS = [(middle, volume) for middle in MIDDLES for volume in VOLUMES]


class PoolCase(Case):
    def assert_pool(self, value, middle, volume):
        self.assertIs(type(value), Pool)
        self.assert_ratio(value.middle, middle)
        self.assert_ratio(value.volume, volume)

    def assert_invalid(self, expected, call, *arguments, **named):
        with self.assertRaises(InvalidNumber) as caught:
            call(*arguments, **named)
        self.assertIs(type(caught.exception), InvalidNumber)
        self.assertEqual(caught.exception.value, expected)


class Construction(PoolCase):
    def test_middle_volume_and_ends(self):
        for middle, volume in PAIRS:
            made = pool(middle, volume)
            self.assert_pool(made, middle, volume)
            self.assert_ratio(made.left, middle - volume / 2)
            self.assert_ratio(made.right, middle + volume / 2)

    def test_integers_and_ratios(self):
        for made in (Pool(3, 5), Pool(Ratio(3), 5), Pool(3, Ratio(5)), Pool(Ratio(6, 2), Ratio(-10, -2))):
            self.assert_pool(made, 3, 5)
            self.assert_ratio(made.left, Fraction(1, 2))
            self.assert_ratio(made.right, Fraction(11, 2))

    def test_by_name(self):
        self.assert_pool(Pool(middle=-1, volume=4), -1, 4)
        self.assert_pool(Pool(volume=Ratio(1, 2), middle=0), 0, Fraction(1, 2))
        self.assert_pool(Pool(2, volume=3), 2, 3)

    def test_a_volume_that_is_not_positive(self):
        for volume in (0, -1, -(10 ** 9), Ratio(0), Ratio(-1, 1000)):
            self.assert_invalid(volume, Pool, 5, volume)
            self.assert_invalid(volume, Pool, middle=-5, volume=volume)

    def test_a_pool_stays_as_it_is(self):
        one, other = pool(0, 2), pool(3, 4)
        for _ in range(2):
            self.assert_pool(one + other, 2, 6)
            self.assert_ratio(one.gap_to(other), 0)
            self.assertEqual([one.touches(other), 5 in one, one == other], [True, False, False])
            self.assertEqual(repr(one), "Pool(0, 2)")
            self.assertEqual([fraction(one.left), fraction(other.right)], [-1, 5])
        self.assertEqual([pair(one), pair(other)], [(0, 2), (3, 4)])


class Between(PoolCase):
    def test_the_ends(self):
        for left in MIDDLES:
            for length in VOLUMES:
                made = Pool.between(ratio(left), ratio(left + length))
                self.assert_pool(made, left + length / 2, length)
                self.assert_ratio(made.left, left)
                self.assert_ratio(made.right, left + length)

    def test_integers_and_ratios(self):
        for made in (Pool.between(-1, 4), Pool.between(Ratio(-1), 4), Pool.between(-1, Ratio(4))):
            self.assert_pool(made, Fraction(3, 2), 5)

    def test_by_name_and_off_an_object(self):
        self.assert_pool(Pool.between(left=0, right=1), Fraction(1, 2), 1)
        self.assert_pool(Pool.between(right=1, left=0), Fraction(1, 2), 1)
        self.assert_pool(Pool(9, 9).between(0, 1), Fraction(1, 2), 1)

    def test_a_right_end_that_is_not_greater(self):
        for left, right in [
            (0, 0), (1, 0), (5, -5), (Ratio(1, 2), Ratio(1, 2)), (Ratio(1, 2), Ratio(499, 1000)),
            (Ratio(3), 3), (3, Ratio(3)),
        ]:
            self.assert_invalid(right, Pool.between, left, right)
            self.assert_invalid(right, Pool.between, left=left, right=right)


class Spots(PoolCase):
    def test_ends_are_covered_and_spots_beyond_them_are_not(self):
        for middle, volume in PAIRS:
            made = pool(middle, volume)
            left, right = middle - volume / 2, middle + volume / 2
            for spot in (left, right, middle, left + TINY, right - TINY):
                self.assertIs(ratio(spot) in made, True)
                self.assertIs(ratio(spot) not in made, False)
            for spot in (left - TINY, right + TINY, left - volume, right + volume):
                self.assertIs(ratio(spot) in made, False)

    def test_integer_spots(self):
        made = Pool(3, 4)
        self.assertEqual([spot for spot in range(-6, 9) if spot in made], [1, 2, 3, 4, 5])


class TwoPools(PoolCase):
    def test_gaps(self):
        for one in PAIRS:
            for other in PAIRS:
                gap = abs(one[0] - other[0]) - (one[1] + other[1]) / 2
                self.assert_ratio(pool(*one).gap_to(pool(*other)), gap)
                self.assertIs(pool(*one).touches(pool(*other)), gap <= 0)

    def test_pools_that_just_touch_or_are_just_apart(self):
        for middle, volume in PAIRS:
            one = pool(middle, volume)
            for side in (-1, 1):
                reach = middle + side * (volume / 2 + Fraction(3, 2))
                for shift, gap in [(0, 0), (side * TINY, TINY), (-side * TINY, -TINY)]:
                    other = pool(reach + shift, 3)
                    self.assert_ratio(one.gap_to(other), gap)
                    self.assert_ratio(other.gap_to(one), gap)
                    self.assertIs(one.touches(other), gap <= 0)
                    self.assertIs(other.touches(one), gap <= 0)

    def test_a_pool_touches_itself_and_one_inside(self):
        big, small = Pool(0, 10), Pool(1, 1)
        self.assert_ratio(big.gap_to(big), -10)
        self.assert_ratio(big.gap_to(small), Fraction(-9, 2))
        self.assertEqual([big.touches(big), big.touches(small), small.touches(big)], [True, True, True])

    def test_by_name(self):
        self.assert_ratio(Pool(0, 2).gap_to(other=Pool(5, 2)), 3)
        self.assertIs(Pool(0, 2).touches(other=Pool(2, 2)), True)

    def test_sums(self):
        for one in PAIRS:
            for other in PAIRS:
                volume = one[1] + other[1]
                middle = (one[0] * one[1] + other[0] * other[1]) / volume
                self.assert_pool(pool(*one) + pool(*other), middle, volume)

    def test_sums_of_pools_that_do_not_touch(self):
        self.assert_pool(Pool(0, 1) + Pool(100, 3), 75, 4)
        self.assert_pool(Pool(100, 3) + Pool(0, 1), 75, 4)

    def test_equality(self):
        for one in PAIRS:
            for other in PAIRS:
                self.assertIs(pool(*one) == pool(*other), one == other)
                self.assertIs(pool(*one) != pool(*other), one != other)
        self.assertIs(Pool(Ratio(4, 2), 1) == Pool(2, Ratio(3, 3)), True)

    def test_equality_with_values_of_other_kinds(self):
        others = [0, 1, True, None, "Pool(0, 1)", (0, 1), [0, 1], Ratio(1), Ratio(0), object(), Pool, 1.0, {}]
        self.assert_equals_none(Pool(0, 1), others)

    def test_repr(self):
        for made, text in [
            (Pool(2, 6), "Pool(2, 6)"),
            (Pool(Ratio(-3, 2), Ratio(1, 3)), "Pool(-3/2, 1/3)"),
            (Pool(Ratio(0, 4), Ratio(6, 3)), "Pool(0, 2)"),
        ]:
            self.assertEqual(repr(made), text)

    def test_the_example_of_the_document(self):
        a = Pool(0, 2)
        b = Pool(3, 4)
        answers = [a.touches(b), str(a.gap_to(b)), repr(a + b), 5 in b, 5 in a]
        self.assertEqual(answers, [True, "0", "Pool(2, 6)", True, False])


if __name__ == "__main__":
    unittest.main()
