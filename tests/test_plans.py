"""Points [26] and [27]: plans."""

import unittest
from fractions import Fraction
from itertools import product

from models import indexes_in_pools
from poolsmeet.errors import PoolError, UnknownIndex
from poolsmeet.layouts import groups
from poolsmeet.plans import least_volume, room_at
from poolsmeet.pools import Pool
from poolsmeet.rains import Rain
from poolsmeet.ratios import Ratio
from poolsmeet.waters import Water
from support import TINY, Case, fractions, ratio, some_pairs

HALF = Fraction(1, 2)

BAGS = [fractions(bag) for bag in [
    [(5, 3)], [(0, 1), (0, 1)], [(0, 2), (2, 2)], [(0, 2), (2 + TINY, 2)], [(0, 2), (3, 2), (4, 1)],
    [(0, 2), (1, 2), (9, 1)], [(0, 1), (9, 2), (10, 2)], [(0, 10), (4, 1), (7, 2)], [(0, 1), (9, 1), (13, 7)],
    [(-4, 1), (-3, 5), (0, HALF), (3, 5), (4, 1)], [(3 * at, 2) for at in range(6)], [(0, 1), (20, 9), (26, 1)],
    [(Fraction(1, 3), Fraction(2, 7)), (HALF, Fraction(1, 9)), (2, 3), (Fraction(11, 3), Fraction(5, 2)), (7, HALF)],
    [(0, 100), (80, 1), (82, 1), (84, 1), (200, 3)], [(-50, 4), (-10, Fraction(1, 3)), (10, Fraction(1, 3)), (60, 4)],
]]
BAGS += [some_pairs(7, seed, width, (1, 2, 7)) for seed in range(4) for width in (20, 90)]
FORTY = [
    some_pairs(40, 1, 900), some_pairs(40, 2, 90), [(Fraction(3 * at), Fraction(1)) for at in range(40)],
    [(Fraction(7 * at * at, 1000 - at), Fraction(at + 1, 999 - 3 * at)) for at in range(40)],
]


def rain(bag):
    return Rain([(ratio(spot), ratio(volume)) for spot, volume in bag])


def spots_around(bag):
    """Spots of drops, between them, between whole numbers, beyond them, and at the ends of what the drops cover."""
    spots = sorted({spot for spot, _ in bag})
    ends = [spot + sign * volume / 2 for spot, volume in bag[:3] for sign in (1, -1)]
    between = [(one + other) / 2 for one, other in zip(spots, spots[1:])]
    return [*spots, *between, *ends, spots[0] - 30, spots[-1] + Fraction(77, 3), spots[0] + Fraction(1, 1000)]


class LeastVolume(Case):
    def assert_least(self, bag, spot, one, other):
        """After a drop of the answer both drops are in one pool, after one less, or none, they are not."""
        found = least_volume(rain(bag), ratio(spot), one, other)
        self.assertIs(type(found), int)
        self.assertGreaterEqual(found, 0)
        wanted = {one, other}
        self.assertTrue(any(wanted <= pool for pool in indexes_in_pools(bag, spot, found)))
        if found > 0:
            self.assertFalse(any(wanted <= pool for pool in indexes_in_pools(bag, spot, found - 1)))
        return found

    def test_all_pairs_and_many_spots(self):
        for bag in BAGS:
            for spot in spots_around(bag):
                for one, other in product(range(len(bag)), repeat=2):
                    self.assert_least(bag, spot, one, other)

    def test_rains_of_40_drops(self):
        for bag in FORTY:
            for spot in spots_around(bag)[::9]:
                for one, other in [(0, 39), (39, 0), (0, 1), (20, 19), (5, 30), (12, 12), (38, 39)]:
                    self.assert_least(bag, spot, one, other)

    def test_the_volume_itself_is_enough_as_one_more_drop(self):
        for bag in BAGS:
            made = rain(bag)
            for spot in spots_around(bag):
                found = least_volume(made, ratio(spot), 0, len(bag) - 1)
                if found > 1:
                    for volume, expected in [(found, True), (found + 1, True), (found - 1, False)]:
                        more = made + Rain([(ratio(spot), volume)])
                        ends = [more.drops.index(made.drops[at]) for at in (0, -1)]
                        pools = [first <= min(ends) and max(ends) <= last for first, last in groups(more)]
                        self.assertIs(any(pools), expected)

    def test_single_cases(self):
        made = Rain([(0, 2), (10, 2)])
        # Between them, a drop reaches both at once, or one after another.
        self.assertEqual(least_volume(made, 5, 0, 1), 8)
        self.assertEqual(least_volume(made, Ratio(11, 2), 0, 1), 9)
        self.assertEqual(least_volume(made, 0, 0, 1), 16)
        self.assertEqual(least_volume(made, 10, 1, 0), 16)
        self.assertEqual(least_volume(Rain([(0, 2), (3, 2)]), Ratio(3, 2), 0, 1), 1)
        close = fractions([(0, 2), (2 + Fraction(1, 1000), 2)])
        self.assertEqual(self.assert_least(close, Fraction(1000), 0, 1), 1995)
        self.assertEqual(self.assert_least(close, Fraction(1), 0, 1), 1)

    def test_0_where_they_are_in_one_pool_already(self):
        for bag in BAGS + FORTY:
            made = rain(bag)
            for first, last in groups(made):
                for spot in (0, Ratio(1, 3), 10 ** 9, -(10 ** 9)):
                    self.assertEqual(least_volume(made, spot, first, last), 0)
                    self.assertEqual(least_volume(made, spot, last, first), 0)
                    self.assertEqual(least_volume(made, spot, last, last), 0)
                    self.assertIs(type(least_volume(made, spot, first, last)), int)

    def test_answers_beyond_a_thousand_million(self):
        far = [(Fraction(-(10 ** 9)), Fraction(1, 1000)), (Fraction(10 ** 9), Fraction(1, 1000))]
        for spot, least in [(0, 2 * 10 ** 9 - 1), (10 ** 9, 4 * 10 ** 9 - 1)]:
            found = self.assert_least(far, Fraction(spot), 0, 1)
            self.assertGreaterEqual(found, least)
            self.assertLessEqual(found, least + 1)
        many = [(Fraction(10 ** 9 - at), Fraction(1, 3)) for at in range(40)]
        self.assertGreater(self.assert_least(many, Fraction(-(10 ** 9)), 0, 39), 10 ** 9)
        self.assertGreater(self.assert_least(many, Fraction(-(10 ** 9), 7), 3, 4), 10 ** 9)
        heavy = fractions([(0, 10 ** 9), (10 ** 9, 1), (-(10 ** 9), 1)])
        for one, other in [(0, 1), (1, 2), (0, 2)]:
            self.assertGreater(self.assert_least(heavy, Fraction(10 ** 9 - 7, 3), one, other), 10 ** 8)

    def test_exact_thresholds(self):
        # The drop at 0 reaches the other one with a volume of exactly 2 * at - 1, or with the next whole one.
        for at in (2, 7, 10 ** 6, 10 ** 9):
            for shift, more in [(Fraction(0), 0), (Fraction(1, 1000), 1), (Fraction(-1, 1000), 0), (-HALF, -1)]:
                bag = [(Fraction(0), Fraction(1)), (at + shift, Fraction(1))]
                self.assertEqual(self.assert_least(bag, Fraction(0), 0, 1), 2 * at - 2 + more)
        # At 5, the pool of the first two drops ends at 0 - 40 / 15 + 15 / 2 = 29 / 6.
        for shift, least in [(0, 5), (TINY, 6), (-TINY, 5)]:
            bag = [(Fraction(-4), Fraction(10)), (Fraction(29, 6) + HALF + shift, Fraction(1))]
            self.assertEqual(self.assert_least(bag, Fraction(0), 0, 1), least)

    def least_by_steps(self, bag, spot, one, other):
        volume = 0
        while not any({one, other} <= pool for pool in indexes_in_pools(bag, spot, volume)):
            volume += 1
        return volume

    def test_against_one_step_after_another(self):
        for bag in BAGS:
            for spot in spots_around(bag)[::2]:
                for one, other in [(0, len(bag) - 1), (0, len(bag) // 2), (len(bag) - 1, len(bag) // 3)]:
                    found = least_volume(rain(bag), ratio(spot), one, other)
                    if found < 60:
                        self.assertEqual(found, self.least_by_steps(bag, spot, one, other))

    def test_unknown_indexes(self):
        for many in (0, 1, 3, 40):
            made = rain([(Fraction(5 * at), Fraction(1)) for at in range(many)])
            wrong = [index for index in (-1, -many, many, many + 1, -(10 ** 9), 10 ** 30) if not 0 <= index < many]
            for index, right in product(wrong, range(0, many, 2)):
                self.assert_error(UnknownIndex, {"index": index}, least_volume, made, 3, index, right)
                self.assert_error(UnknownIndex, {"index": index}, least_volume, made, Ratio(1, 2), right, index)
            for index, other in product(wrong, repeat=2):
                self.assert_error(UnknownIndex, {"index": index}, least_volume, made, 3, index, other)
        with self.assertRaises(IndexError) as caught:
            least_volume(Rain(), 0, 0, 0)
        self.assertNotIsInstance(caught.exception, PoolError)

    def test_kinds_of_numbers_order_of_drops_and_names(self):
        for bag in BAGS:
            for spot in (-3, 0, 4, 25):
                found = least_volume(rain(bag), spot, 0, len(bag) - 1)
                self.assertEqual(least_volume(rain(bag[::-1]), Ratio(2 * spot, 2), 0, len(bag) - 1), found)
                self.assertEqual(least_volume(other=len(bag) - 1, one=0, spot=spot, rain=rain(bag)), found)

    def test_mirrored_and_moved(self):
        for bag in BAGS:
            made, last = rain(bag), len(bag) - 1
            for spot in spots_around(bag):
                found = least_volume(made, ratio(spot), 0, last)
                self.assertEqual(least_volume(-made, -ratio(spot), 0, last), found)
                self.assertEqual(least_volume(made >> Ratio(7, 3), ratio(spot) + Ratio(7, 3), last, 0), found)


class Room(Case):
    def test_at_ends_and_beside_and_in_pools(self):
        water = Water([Pool(0, 2), Pool(10, 4), Pool(20, 1)])
        for spot, room in [
            (0, 0), (1, 0), (-1, 0), (Ratio(1, 2), 0), (8, 0), (12, 0), (11, 0), (20, 0), (Ratio(41, 2), 0),
            (2, 2), (Ratio(9, 2), 7), (Ratio(4, 1), 6), (5, 6), (7, 2), (Ratio(31, 2), 7), (15, 6), (16, 7), (19, 1),
            (-2, 2), (-100, 198), (21, 1), (Ratio(62, 3), Fraction(1, 3)), (10 ** 9, 2 * 10 ** 9 - 41),
        ]:
            self.assert_ratio(room_at(water, spot), room)
            self.assert_ratio(room_at(spot=spot, water=water), room)

    def test_without_pools(self):
        for spot in (0, Ratio(1, 3), -(10 ** 9)):
            self.assertIs(room_at(Water(), spot), None)

    def test_the_bound_is_the_least(self):
        for bag in BAGS + FORTY:
            water = rain(bag)(1)
            for spot in spots_around(bag):
                room = room_at(water, ratio(spot))
                self.assertIs(room == 0, ratio(spot) in water)
                if room > 0:
                    less = Pool(ratio(spot), room * ratio(1 - TINY))
                    self.assertFalse(any(less.touches(pool) for pool in water.pools()))
                more = Pool(ratio(spot), room + ratio(TINY))
                self.assertTrue(any(more.touches(pool) for pool in water.pools()))

    def test_twice_the_distance_to_the_nearest_end(self):
        for bag in BAGS:
            water = rain(bag)(1)
            for spot in spots_around(bag):
                ends = [end for pool in water.pools() for end in (pool.left, pool.right)]
                distances = [abs(end - ratio(spot)) for end in ends]
                nearest = distances[0]
                for distance in distances:
                    nearest = distance if distance < nearest else nearest
                expected = Ratio(0) if ratio(spot) in water else nearest * 2
                self.assertEqual(room_at(water, ratio(spot)), expected)


if __name__ == "__main__":
    unittest.main()
