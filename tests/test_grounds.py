"""Points [28] to [32]: grounds."""

import unittest
from fractions import Fraction
from itertools import combinations_with_replacement, permutations, product

from models import Line, Round, Walls, total
from poolsmeet.errors import Full, InvalidNumber, MissingDrop, OutOfGround, Overfull, PoolError
from poolsmeet.grounds import Ground, Ring, Trough
from poolsmeet.rains import Rain
from poolsmeet.ratios import Ratio
from support import TINY, Case, fraction, fractions, mixed, ratio, run_together, some_pairs, stream

HALF, THIRD = Fraction(1, 2), Fraction(1, 3)


def rain(bag):
    return Rain([(ratio(spot), ratio(volume)) for spot, volume in bag])


def as_drops(bag):
    return [(ratio(spot), ratio(volume)) for spot, volume in bag]


def state(ground):
    """All that can be asked about a ground, but for single spots."""
    return [ground.rain(), ground.volume, ground.stretches(), ground.dry(), ground.changes(), len(ground), repr(ground)]


class GroundCase(Case):
    def assert_number(self, value, expected):
        if expected is None:
            self.assertIs(value, None)
        else:
            self.assert_ratio(value, expected)

    def assert_ground(self, ground, bag, model, dry, spots=()):
        """The ground has these drops, by the model, and this dry length."""
        bag = fractions(bag)
        self.assertIs(type(ground.rain()), Rain)
        self.assert_pairs(ground.rain().drops, sorted(bag))
        self.assert_ratio(ground.volume, total(bag))
        stretches = model.stretches(bag) if bag else []
        self.assert_pairs(ground.stretches(), stretches)
        self.assert_number(ground.dry(), dry)
        self.assertEqual(len(ground), len(bag))
        self.assertEqual(repr(ground), f"{type(ground).__name__}({len(bag)})")
        for spot in spots:
            self.assertIs(ground.is_wet(ratio(spot)), model.is_wet(stretches, spot))

    def assert_unchanged(self, ground, kind, attributes, call, *arguments, **named):
        """The call raises the error, and the ground stays as it is."""
        before = state(ground)
        self.assert_error(kind, attributes, call, *arguments, **named)
        self.assertEqual(state(ground), before)

    def pour_and_take(self, make, bag, model, dry_of, spots, seed=0):
        """Pour the drops in some order, take some of them in between, and compare with the model after each change."""
        ground, there = make(), []
        numbers = stream(seed)
        self.assert_ground(ground, [], model, dry_of([]), spots)
        for spot, volume in mixed(bag, seed):
            self.assertIs(ground.pour(ratio(spot), ratio(volume)), None)
            there.append((spot, volume))
            self.assert_ground(ground, there, model, dry_of(there), spots)
            if next(numbers) % 3 == 0:
                gone = there.pop(next(numbers) % len(there))
                self.assertIs(ground.take(*as_drops([gone])[0]), None)
                self.assert_ground(ground, there, model, dry_of(there), spots)
        return ground


class Lines(GroundCase):
    BAGS = [fractions(bag) for bag in [
        [(0, 2), (3, 2), (4, 1)], [(0, 1), (9, 2), (10, 2)], [(0, 2), (2, 2)], [(0, 2), (2 + TINY, 2)],
        [(1, 1), (1, 1), (1, 2)], [(0, 10), (4, 1), (7, 2)],
    ]] + [some_pairs(12, seed, 30) for seed in range(3)]

    def test_drops_in_any_order(self):
        for bag in self.BAGS:
            spots = [spot + shift for spot, _ in bag for shift in (0, HALF, 1)]
            for seed in range(3):
                self.pour_and_take(Ground, bag, Line(), lambda there: None, spots, seed)

    def test_the_stretches_are_the_covers_of_the_water(self):
        for bag in self.BAGS + [some_pairs(40, 9, 300)]:
            water = rain(bag)(1)
            found = Ground.filled(rain(bag)).stretches()
            self.assertEqual(found, tuple([(pool.left, pool.right) for pool in water.pools()]))
            self.assert_pairs(found, [(at - volume / 2, at + volume / 2) for at, volume in run_together(bag)])

    def test_numbers_of_both_kinds(self):
        ground = Ground()
        ground.pour(3, 2)
        ground.pour(Ratio(6, 2), Ratio(1, 2))
        self.assert_ground(ground, [(3, 2), (3, HALF)], Line(), None, [3, 9])
        self.assertIs(ground.is_wet(3), True)
        self.assertIs(ground.is_wet(9), False)
        ground.take(Ratio(3), 2)
        ground.take(3, Ratio(2, 4))
        self.assert_ground(ground, [], Line(), None, [3])

    def test_an_empty_line(self):
        self.assertEqual(state(Ground()), [Rain(), 0, (), None, [], 0, "Ground(0)"])
        self.assertIs(Ground().is_wet(0), False)


# Between the walls at 0 and 12: pools at one wall, at one wall twice, at both, and in the middle.
TROUGH_BAGS = [fractions(bag) for bag in [
    [(0, 1)], [(12, 1)], [(1, 2)], [(1, 2 + TINY)], [(1, 3)], [(11, 3)], [(6, 12)], [(0, 12)], [(12, 12)], [(5, 2)],
    [(0, 1), (0, 2)], [(0, 1), (HALF, 1)], [(HALF, 4), (3, 1)], [(1, 4), (6, 4), (11, 4)], [(0, 6), (12, 6)],
    [(0, 6), (12, 6 - TINY)], [(1, 4), (9, 1)], [(1, 4), (9, 1), (5, 2), (6, 2)], [(HALF, 3), (THIRD, 1), (12, 1)],
    [(2, 6), (HALF, 1)], [(HALF, 1), (3, 6)], [(11, 1), (10, 7), (1, 1)], [(0, 1), (1 + TINY, 1), (4, 2), (12, 3)],
    [(0, 2), (4, 4)], [(0, 2), (4 + TINY, 4)], [(12, 2), (8, 4)], [(12, 2), (8 - TINY, 4)], [(3, HALF), (0, 6), (9, 1)],
    [(5, 1), (7, 1), (0, 2), (12, 2), (2, 2), (10, 2), (6, 2)], [(12, 1), (12, 1), (11, 1), (12, 1)],
]]
TROUGH_BAGS += [list(bag) for bag in combinations_with_replacement(fractions(product((0, 1, 5, 12), (1, HALF, 4))), 3)]
TROUGH_BAGS = [bag for bag in TROUGH_BAGS if total(bag) <= 12]


def some_between(many, seed, width, volume):
    """So many drops from 0 to the width whose volumes are this one in all."""
    found = [(abs(spot) % width, amount) for spot, amount in some_pairs(many, seed, int(width))]
    whole = total(found)
    return [(spot, amount * volume / whole) for spot, amount in found]


class Troughs(GroundCase):
    SPOTS = [Fraction(at, 4) for at in range(0, 49, 3)] + [Fraction(12)]

    def dry(self, bag):
        return 12 - total(bag)

    def test_drops_in_any_order(self):
        for seed, bag in enumerate(TROUGH_BAGS):
            self.pour_and_take(lambda: Trough(0, 12), bag, Walls(0, 12), self.dry, self.SPOTS, seed)

    def test_the_order_of_running_together_does_not_matter(self):
        for seed, bag in enumerate(TROUGH_BAGS):
            found = Trough.filled(0, 12, rain(bag)).stretches()
            for order in (bag, bag[::-1], mixed(bag, seed)):
                self.assert_pairs(found, Walls(0, 12, stream(seed)).stretches(order))

    def test_walls_anywhere(self):
        for low, width in fractions([(Fraction(-7, 3), 12), (10 ** 6, Fraction(25, 2)), (-HALF, Fraction(40, 3))]):
            for bag in TROUGH_BAGS[::5]:
                moved = [(spot + low, volume) for spot, volume in bag]
                ground = Trough.filled(ratio(low), ratio(low + width), rain(moved))
                spots = [low, low + width, low + 5]
                self.assert_ground(ground, moved, Walls(low, low + width), width - total(bag), spots)

    def test_many_drops_and_little_dry_ground(self):
        for seed, (many, width) in enumerate(product((5, 16, 40), (10, 30, 200))):
            for volume in (Fraction(width, 3), width - Fraction(1, 9), Fraction(width)):
                bag = some_between(many, seed, Fraction(width), volume)
                ground = Trough.filled(0, width, rain(bag))
                covers = self.by_line(bag, Fraction(width))
                self.assert_pairs(ground.stretches(), covers)
                self.assert_ratio(ground.dry(), width - volume)

    def by_line(self, bag, width):
        """The covers by one pass from the left, in which a pool is laid against the walls whenever it is measured."""
        model, standing = Walls(Fraction(0), width), []
        for drop in sorted(bag):
            pool = [drop]
            while standing and (both := model.meet(standing[-1], pool)):
                pool = both
                standing.pop()
            standing.append(pool)
        return [model.cover(pool) for pool in standing]

    def test_a_full_trough(self):
        for bag in ([(6, 12)], [(0, 12)], [(0, 6), (12, 6)], [(1, 3), (1, 3), (11, 6)], [(at, 1) for at in range(12)]):
            ground = Trough.filled(0, 12, rain(fractions(bag)))
            self.assert_pairs(ground.stretches(), [(0, 12)])
            self.assert_ratio(ground.dry(), 0)
            self.assertTrue(all(ground.is_wet(ratio(spot)) for spot in self.SPOTS))
            self.assert_unchanged(ground, Overfull, {"total": ratio(12 + TINY)}, ground.pour, 3, ratio(TINY))

    def test_single_pools_at_walls(self):
        for spot, volume, left, right in [
            (0, 1, 0, 1), (HALF, 1, 0, 1), (HALF + TINY, 1, TINY, 1 + TINY), (HALF - TINY, 1, 0, 1), (3, 6, 0, 6),
            (2, 6, 0, 6), (12, 1, 11, 12), (11, 2, 10, 12), (11 - TINY, 2, 10 - TINY, 12 - TINY), (10, 8, 4, 12),
        ]:
            ground = Trough(0, 12)
            ground.pour(ratio(Fraction(spot)), ratio(Fraction(volume)))
            self.assert_pairs(ground.stretches(), [(left, right)])

    def test_pools_at_one_wall_run_together(self):
        ground = Trough.filled(0, 12, Rain([(0, 1), (Ratio(1, 4), 2), (12, 1), (11, 3)]))
        self.assert_pairs(ground.stretches(), [(0, 3), (8, 12)])

    def test_against_a_ring_of_twice_the_width(self):
        bags = TROUGH_BAGS + [some_between(20, seed, Fraction(30), Fraction(29)) for seed in range(4)]
        for bag in bags:
            width = 12 if bag in TROUGH_BAGS else 30
            trough = Trough.filled(0, width, rain(bag))
            ring = Ring.filled(2 * width, rain(bag + [(-spot, volume) for spot, volume in bag]))
            self.assertEqual(ring.dry(), trough.dry() * 2)
            for left, right in trough.stretches():
                for spot in (left, right, (left + right).over(2)):
                    self.assertIs(ring.is_wet(spot), True)
                    self.assertIs(ring.is_wet(-spot), True)
                for spot in (left - ratio(TINY), right + ratio(TINY)):
                    if 0 <= spot <= width:
                        self.assertIs(ring.is_wet(spot), trough.is_wet(spot))
            for at in range(4 * width + 1):
                self.assertIs(ring.is_wet(Ratio(at, 4)), trough.is_wet(Ratio(at, 4)))

    def test_wide_ones_against_a_line(self):
        for bag in Lines.BAGS:
            line = Ground.filled(rain(bag))
            trough = Trough.filled(-1000, Ratio(2001, 2), rain(bag))
            self.assertEqual(trough.stretches(), line.stretches())
            self.assertEqual([trough.is_wet(at) for at in range(-40, 40)], [line.is_wet(at) for at in range(-40, 40)])

    def test_constructor_errors(self):
        for left, right in [(0, 0), (0, -1), (5, 4), (Ratio(1, 2), Ratio(1, 2)), (1, Ratio(1, 2)), (Ratio(1, 3), 0),
                            (10 ** 9, -(10 ** 9)), (Ratio(1, 3), Ratio(333, 1000))]:
            self.assert_error(InvalidNumber, {"value": right}, Trough, left, right)
            self.assert_error(InvalidNumber, {"value": right}, Trough, right=right, left=left)
            self.assert_error(InvalidNumber, {"value": right}, Trough.filled, left, right, Rain([(10 ** 9, 1)]))
        self.assertEqual(repr(Trough(right=Ratio(1, 2), left=Ratio(1, 3))), "Trough(0)")

    def test_an_empty_trough(self):
        ground = Trough(Ratio(-1, 2), 4)
        self.assertEqual(state(ground), [Rain(), 0, (), Ratio(9, 2), [], 0, "Trough(0)"])
        self.assertIs(ground.is_wet(4), False)

    def test_spots_beyond_a_wall(self):
        for ground in (Trough(0, 12), Trough.filled(0, 12, Rain([(3, 12)])), Trough.filled(0, 12, Rain([(12, 1)]))):
            for spot in (-1, 13, ratio(-TINY), ratio(12 + TINY), 10 ** 9, Ratio(25, 2)):
                self.assert_unchanged(ground, OutOfGround, {"spot": spot}, ground.is_wet, spot)
                self.assert_unchanged(ground, OutOfGround, {"spot": spot}, ground.is_wet, spot=spot)
            for spot in (0, 12, Ratio(12)):
                self.assertIs(type(ground.is_wet(spot)), bool)


# On a ring of the length 12: pools over the seam, several pools, a ring that is almost flooded.
RING_BAGS = [fractions(bag) for bag in [
    [(0, 1)], [(HALF, 1)], [(HALF - TINY, 1)], [(11, 4)], [(0, 11)], [(6, 11)], [(0, 12 - TINY)], [(0, 2), (6, 2)],
    [(1, 1), (11, 1)], [(HALF, 1), (Fraction(23, 2), 1)], [(HALF + TINY, 1), (Fraction(23, 2), 1)], [(0, 1), (0, 2)],
    [(1, 9), (11, 1)], [(11, 9), (1, 1)], [(3, 4), (9, 4)], [(2, 4), (10, 4), (6, 3)], [(0, 4), (4, 4), (8, 3)],
    [(0, 3), (3, 3), (6, 3), (9, 2)], [(1, 2), (5, 2), (9, 2)], [(11, 1), (10, 1), (1, 3), (7, HALF)],
    [(0, 1), (2, 1), (4, 1), (6, 1), (8, 1), (10, 1)], [(0, 1), (2, 1), (4, 1), (6, 1), (8, 1), (10, 1), (11, 1)],
    [(6, 10), (0, 1)], [(6, 10), (THIRD, 1), (Fraction(35, 3), HALF)], [(9, 5), (2, 5)], [(1, 1), (6, 10)],
]]
RING_BAGS += [list(bag) for bag in combinations_with_replacement(fractions(product((0, 1, 5, 11), (1, HALF, 4))), 3)]
FLOODS = [fractions(bag) for bag in [
    [(0, 12)], [(5, 13)], [(0, 6), (6, 6)], [(0, 6), (1, 7)], [(at, 1) for at in range(12)], [(3, 10 ** 9)],
]]


class Rings(GroundCase):
    SPOTS = [Fraction(at, 4) for at in range(0, 49, 3)] + [Fraction(-1, 8), Fraction(1205, 8), Fraction(-10 ** 6)]

    def dry(self, bag):
        return max(Fraction(0), 12 - total(bag))

    def test_drops_in_any_order(self):
        for seed, bag in enumerate(RING_BAGS + FLOODS):
            self.pour_and_take(lambda: Ring(12), bag, Round(Fraction(12)), self.dry, self.SPOTS, seed)

    def test_the_order_of_running_together_does_not_matter(self):
        for seed, bag in enumerate(RING_BAGS):
            found = Ring.filled(12, rain(bag)).stretches()
            for order in (bag, bag[::-1], mixed(bag, seed)):
                self.assert_pairs(found, Round(Fraction(12), stream(seed)).stretches(order))

    def test_turned_around(self):
        for bag in RING_BAGS:
            found = Ring.filled(12, rain(bag))
            for way in (Fraction(1), Fraction(7, 3), Fraction(-5), Fraction(11)):
                turned = [((spot + way) % 12, volume) for spot, volume in bag]
                moved = Ring.filled(12, rain(turned))
                self.assert_ground(moved, turned, Round(Fraction(12)), self.dry(bag))
                for spot in self.SPOTS:
                    self.assertIs(moved.is_wet(ratio(spot + way)), found.is_wet(ratio(spot)))

    def test_many_drops_and_little_dry_ground(self):
        for seed, (many, length) in enumerate(product((5, 9), (10, 30, 200))):
            for volume in (Fraction(length, 3), length - Fraction(1, 9)):
                bag = some_between(many, seed, Fraction(length), volume)
                ground = Ring.filled(length, rain(bag))
                self.assert_ground(ground, bag, Round(Fraction(length)), length - volume, self.SPOTS)

    def test_40_drops(self):
        for length in (100, 333, 1000):
            for volume in (Fraction(length, 2), length - Fraction(1, 9)):
                bag = some_between(40, length, Fraction(length), volume)
                ground = Ring.filled(length, rain(bag))
                stretches = [(fraction(left), fraction(right)) for left, right in ground.stretches()]
                self.assertEqual(sum(right - left for left, right in stretches), volume)
                # Cut open at a dry spot, the ring is a line.
                dry = (stretches[-1][1] + stretches[0][0] + length) / 2 % length
                self.assertIs(ground.is_wet(ratio(dry)), False)
                opened = [((spot - dry) % length, amount) for spot, amount in bag]
                line = [((at - amount / 2 + dry) % length, amount) for at, amount in run_together(opened)]
                self.assertEqual(stretches, sorted((left, left + amount) for left, amount in line))
                self.assertEqual(ground.rain(), rain(bag))

    def test_a_pool_over_the_seam(self):
        ground = Ring.filled(12, Rain([(11, 4)]))
        self.assert_pairs(ground.stretches(), [(9, 13)])
        for spot, wet in [(9, True), (0, True), (1, True), (12, True), (13, True), (Ratio(5, 4), False), (8, False),
                          (-3, True), (-4, False), (Ratio(-1, 3), True), (21, True), (20, False)]:
            self.assertIs(ground.is_wet(spot), wet)
        self.assert_pairs(Ring.filled(12, Rain([(Ratio(1, 2), 1)])).stretches(), [(0, 1)])
        self.assert_pairs(Ring.filled(12, Rain([(Ratio(1, 4), 1)])).stretches(), [(Fraction(47, 4), Fraction(51, 4))])
        self.assert_pairs(Ring.filled(12, Rain([(Ratio(23, 2), 1)])).stretches(), [(11, 12)])
        self.assertIs(Ring.filled(12, Rain([(Ratio(23, 2), 1)])).is_wet(0), True)

    def test_two_pools_that_meet_over_the_seam(self):
        ground = Ring.filled(12, Rain([(1, 3), (11, 1)]))
        self.assert_pairs(ground.stretches(), [(Fraction(21, 2), Fraction(29, 2))])

    def test_a_flooded_ring(self):
        for bag in FLOODS:
            ground = Ring.filled(12, rain(bag))
            self.assert_pairs(ground.stretches(), [(0, 12)])
            self.assert_ratio(ground.dry(), 0)
            self.assert_ratio(ground.volume, total(bag))
            self.assertTrue(all(ground.is_wet(ratio(spot)) for spot in self.SPOTS))
        almost = Ring.filled(12, rain([(Fraction(0), 12 - TINY)]))
        self.assertEqual(almost.stretches(), ((ratio(6 + TINY / 2), ratio(18 - TINY / 2)),))
        self.assert_ratio(almost.dry(), TINY)
        self.assertIs(almost.is_wet(6), False)

    def test_spots_many_rounds_away(self):
        for spot in (5, -7, 5 + 12 * 10 ** 6, 5 - 12 * 10 ** 6, Ratio(5), Ratio(-14, 2)):
            ground = Ring(12)
            ground.pour(spot, 2)
            self.assert_ground(ground, [(5, 2)], Round(Fraction(12)), 10)
            self.assertEqual(ground.changes(), [("pour", 5, 2)])
            for other in (5, -7, 17, 5 - 1200):
                self.assertIs(ground.is_wet(other), True)
                self.assertIs(ground.is_wet(other + 6), False)
            ground.take(17, 2)
            self.assertEqual(ground.changes(), [("pour", 5, 2), ("take", 5, 2)])
            self.assert_ground(ground, [], Round(Fraction(12)), 12)

    def test_lengths_that_are_not_whole(self):
        ground = Ring(Ratio(7, 3))
        ground.pour(5, Ratio(1, 3))
        ground.pour(-1, 1)
        self.assert_ground(ground, [(THIRD, THIRD), (Fraction(4, 3), 1)], Round(Fraction(7, 3)), 1)
        self.assert_pairs(ground.rain().drops, [(THIRD, THIRD), (Fraction(4, 3), 1)])

    def test_long_ones_against_a_line(self):
        for bag in Lines.BAGS:
            line = Ground.filled(rain(bag))
            ring = Ring.filled(10 ** 6, rain(bag))
            moved = sorted([(left % 10 ** 6, right - left) for left, right in fractions([
                (fraction(left), fraction(right)) for left, right in line.stretches()])])
            self.assert_pairs(ring.stretches(), [(left, left + volume) for left, volume in moved])
            self.assertEqual([ring.is_wet(at) for at in range(-40, 40)], [line.is_wet(at) for at in range(-40, 40)])

    def test_constructor_errors(self):
        for length in (0, -1, Ratio(0), Ratio(-1, 1000), -(10 ** 9)):
            self.assert_error(InvalidNumber, {"value": length}, Ring, length)
            self.assert_error(InvalidNumber, {"value": length}, Ring, length=length)
            self.assert_error(InvalidNumber, {"value": length}, Ring.filled, length, Rain())
        self.assertEqual(repr(Ring(length=Ratio(1, 1000))), "Ring(0)")

    def test_an_empty_ring(self):
        self.assertEqual(state(Ring(Ratio(7, 2))), [Rain(), 0, (), Ratio(7, 2), [], 0, "Ring(0)"])
        self.assertIs(Ring(5).is_wet(0), False)

    def test_turned(self):
        for spot, length, expected in [
            (0, 12, 0), (12, 12, 0), (13, 12, 1), (-1, 12, 11), (-12, 12, 0), (-10 ** 9, 7, -(10 ** 9) % 7),
            (Ratio(25, 2), 12, HALF), (Ratio(-1, 3), Ratio(1, 2), Fraction(1, 6)), (5, Ratio(7, 3), THIRD),
            (Ratio(7, 3), Ratio(7, 3), 0), (10 ** 9, Ratio(1, 1000), 0),
        ]:
            self.assert_ratio(Ring.turned(spot, length), expected)
            self.assert_ratio(Ring.turned(length=length, spot=spot), expected)
            self.assert_ratio(Ring(3).turned(spot, length), expected)


def kinds():
    """A new ground of each kind, all with room for more than 40 drops."""
    return [Ground(), Trough(-100, 100), Ring(50)]


class PourErrors(GroundCase):
    def test_volumes_that_are_not_positive(self):
        for ground in kinds():
            ground.pour(1, 1)
            for volume in (0, -1, Ratio(0), Ratio(-1, 1000), -(10 ** 9)):
                for spot in (0, 10 ** 9, Ratio(1, 3)):
                    self.assert_unchanged(ground, InvalidNumber, {"value": volume}, ground.pour, spot, volume)
                    named = {"volume": volume, "spot": spot}
                    self.assert_unchanged(ground, InvalidNumber, {"value": volume}, ground.pour, **named)

    def test_40_drops(self):
        for ground in kinds():
            for at in range(40):
                ground.pour(at, 1)
            self.assertEqual(len(ground), 40)
            self.assert_unchanged(ground, Full, {"limit": 40}, ground.pour, 0, 1)
            self.assert_unchanged(ground, Full, {"limit": 40}, ground.pour, 0, Ratio(1, 3))
            self.assert_unchanged(ground, InvalidNumber, {"value": 0}, ground.pour, 0, 0)
            ground.take(7, 1)
            ground.pour(3, 2)
            self.assert_unchanged(ground, Full, {"limit": 40}, ground.pour, 0, 1)
            self.assertIs(ground.undo(), True)
            self.assertEqual(len(ground), 39)
            ground.pour(4, 5)
            self.assert_unchanged(ground, Full, {"limit": 40}, ground.pour, 0, 1)
            ground.undo()
            ground.undo()
            self.assert_unchanged(ground, Full, {"limit": 40}, ground.pour, 0, 1)
            ground.undo()
            ground.pour(39, 1)
            self.assert_unchanged(ground, Full, {"limit": 40}, ground.pour, 0, 1)

    def test_the_order_in_a_trough(self):
        ground = Trough(0, 40)
        for at in range(40):
            ground.pour(at, Ratio(39, 40))
        beyond, much = 41, 10 ** 9
        self.assert_unchanged(ground, InvalidNumber, {"value": 0}, ground.pour, beyond, 0)
        self.assert_unchanged(ground, OutOfGround, {"spot": beyond}, ground.pour, beyond, much)
        self.assert_unchanged(ground, OutOfGround, {"spot": beyond}, ground.pour, beyond, Ratio(1, 1000))
        self.assert_unchanged(ground, OutOfGround, {"spot": -1}, ground.pour, volume=1, spot=-1)
        self.assert_unchanged(ground, Full, {"limit": 40}, ground.pour, 0, much)
        ground.take(3, Ratio(39, 40))
        self.assert_unchanged(ground, InvalidNumber, {"value": -1}, ground.pour, beyond, -1)
        self.assert_unchanged(ground, OutOfGround, {"spot": beyond}, ground.pour, beyond, much)
        self.assert_unchanged(ground, Overfull, {"total": much + 39 * Ratio(39, 40)}, ground.pour, 0, much)

    def test_too_much_for_a_trough(self):
        ground = Trough(Ratio(1, 2), 5)
        self.assert_unchanged(ground, Overfull, {"total": 5}, ground.pour, 1, 5)
        above = ratio(4 + HALF + TINY)
        self.assert_unchanged(ground, Overfull, {"total": above}, ground.pour, 5, above)
        ground.pour(5, 4)
        self.assert_unchanged(ground, Overfull, {"total": 5}, ground.pour, Ratio(1, 2), 1)
        ground.pour(Ratio(1, 2), Ratio(1, 2))
        self.assert_ground(ground, [(5, 4), (HALF, HALF)], Walls(HALF, 5), 0)
        self.assert_unchanged(ground, Overfull, {"total": Ratio(4501, 1000)}, ground.pour, 1, Ratio(1, 1000))


class Takes(GroundCase):
    def test_drops_that_are_not_there(self):
        for ground in kinds():
            for spot, volume in [(0, 1), (0, 0), (5, -1), (Ratio(1, 3), Ratio(-1, 2)), (49, 10 ** 9)]:
                self.assert_unchanged(ground, MissingDrop, {"spot": spot, "amount": volume}, ground.take, spot, volume)
            ground.pour(3, 2)
            ground.pour(4, 1)
            for spot, volume in [(3, 1), (4, 2), (2, 3), (3, -2), (3, Ratio(2001, 1000)), (Ratio(3001, 1000), 2)]:
                self.assert_unchanged(ground, MissingDrop, {"spot": spot, "amount": volume}, ground.take, spot, volume)
            ground.take(volume=2, spot=3)
            self.assert_unchanged(ground, MissingDrop, {"spot": 3, "amount": 2}, ground.take, 3, 2)

    def test_beyond_a_wall(self):
        ground = Trough.filled(0, 12, Rain([(0, 1)]))
        for spot in (-5, 13, 10 ** 9, Ratio(-1, 3)):
            self.assert_unchanged(ground, MissingDrop, {"spot": spot, "amount": 1}, ground.take, spot, 1)

    def test_the_remainder_on_a_ring(self):
        ground = Ring.filled(Ratio(7, 2), Rain([(1, 1)]))
        remainders = [(4, HALF), (-1, Fraction(5, 2)), (7, 0), (-THIRD, Fraction(19, 6)), (10 ** 9, Fraction(5, 2))]
        for spot, remainder in fractions(remainders):
            for volume in (1, 0, -3):
                attributes = {"spot": ratio(remainder), "amount": volume}
                self.assert_unchanged(ground, MissingDrop, attributes, ground.take, ratio(spot), volume)
        self.assert_unchanged(ground, MissingDrop, {"spot": 1, "amount": 2}, ground.take, Ratio(9, 2), 2)
        ground.take(Ratio(9, 2), 1)
        self.assertEqual(len(ground), 0)

    def test_one_of_equal_drops(self):
        for ground in kinds():
            for _ in range(3):
                ground.pour(5, Ratio(1, 2))
            ground.take(5, Ratio(2, 4))
            self.assertEqual(ground.rain(), Rain([(5, Ratio(1, 2))] * 2))
            self.assertEqual(ground.volume, 1)


class Changes(GroundCase):
    def test_undo_until_nothing_is_left(self):
        for ground in kinds():
            self.assertIs(ground.undo(), False)
            steps = [("pour", 1, 2), ("pour", 3, Ratio(1, 2)), ("take", 1, 2), ("pour", 1, 2), ("take", 3, Ratio(1, 2)),
                     ("pour", 7, 1), ("pour", 1, 2), ("take", 1, 2), ("take", 1, 2), ("pour", 40, 9)]
            states = [state(ground)]
            for word, spot, volume in steps:
                getattr(ground, word)(spot, volume)
                states.append(state(ground))
            self.assertEqual(ground.changes(), steps)
            for at in reversed(range(len(steps))):
                self.assertIs(ground.undo(), True)
                self.assertEqual(state(ground), states[at])
                self.assertEqual(ground.changes(), steps[:at])
            for _ in range(3):
                self.assertIs(ground.undo(), False)
                self.assertEqual(state(ground), states[0])
            ground.pour(2, 2)
            self.assertEqual(ground.changes(), [("pour", 2, 2)])

    def test_60_changes(self):
        for ground in kinds():
            for at in range(30):
                ground.pour(at, 1)
                if at % 2:
                    ground.take(at, 1)
            for at in range(15):
                ground.take(2 * at, 1)
            self.assertEqual(len(ground.changes()), 60)
            self.assertEqual(sum(ground.undo() for _ in range(100)), 60)
            self.assertEqual(state(ground)[:2], [Rain(), 0])

    def test_changes_are_a_new_list_of_tuples_with_ratios(self):
        for ground in kinds():
            ground.pour(1, 2)
            ground.pour(Ratio(3), 1)
            ground.take(1, 2)
            first = ground.changes()
            self.assertIs(type(first), list)
            for change in first:
                self.assertIs(type(change), tuple)
                self.assertEqual([type(part) for part in change], [str, Ratio, Ratio])
            self.assertIsNot(ground.changes(), first)
            before = state(ground)
            first.clear()
            ground.changes().append(("pour", 9, 9))
            self.assertEqual(state(ground), before)
            self.assertEqual(len(ground.changes()), 3)

    def test_a_call_that_raises_is_no_change(self):
        for ground in kinds():
            ground.pour(1, 2)
            for call, arguments in [(ground.pour, (1, 0)), (ground.take, (1, 1)), (ground.take, (9, 9))]:
                with self.assertRaises(PoolError):
                    call(*arguments)
            self.assertEqual(ground.changes(), [("pour", 1, 2)])
            ground.undo()
            self.assertEqual(ground.changes(), [])


class Filled(GroundCase):
    def test_the_drops_are_poured_in_order(self):
        made = Rain([(9, 1), (2, 2), (2, 1), (14, Ratio(1, 2))])
        for ground, kind in [(Ground.filled(made), Ground), (Trough.filled(0, 20, made), Trough),
                             (Ring.filled(10, made), Ring)]:
            self.assertIs(type(ground), kind)
            spots = [2, 2, 9, 4] if kind is Ring else [2, 2, 9, 14]
            poured = list(zip(spots, [1, 2, 1, Ratio(1, 2)]))
            self.assertEqual(ground.changes(), [("pour", spot, volume) for spot, volume in poured])
            self.assertEqual(ground.rain(), Rain(poured))
            self.assertIs(ground.undo(), True)
            self.assertEqual(len(ground), 3)

    def test_new_grounds_by_name(self):
        made = Rain([(3, 1)])
        for make in (lambda: Ground.filled(rain=made), lambda: Trough.filled(rain=made, right=9, left=0),
                     lambda: Ring.filled(rain=made, length=9)):
            one, other = make(), make()
            one.pour(5, 1)
            self.assertEqual([len(one), len(other)], [2, 1])
            self.assertEqual(made, Rain([(3, 1)]))

    def test_no_drops_and_40(self):
        for ground in (Ground.filled(Rain()), Trough.filled(0, 1, Rain()), Ring.filled(1, Rain())):
            self.assertEqual([len(ground), ground.changes(), ground.stretches()], [0, [], ()])
        forty = Rain([(at, 1) for at in range(40)])
        for ground in (Ground.filled(forty), Trough.filled(0, 40, forty), Ring.filled(20, forty)):
            self.assertEqual(len(ground), 40)
            self.assert_unchanged(ground, Full, {"limit": 40}, ground.pour, 0, 1)

    def test_the_first_error(self):
        made = Rain([(0, 3), (1, 3), (5, 3), (9, 30)])
        self.assert_error(InvalidNumber, {"value": 0}, Trough.filled, 0, 0, made)
        self.assert_error(OutOfGround, {"spot": 0}, Trough.filled, 1, 6, made)
        self.assert_error(Overfull, {"total": 6}, Trough.filled, 0, 5, made)
        self.assert_error(Overfull, {"total": 9}, Trough.filled, 0, 6, made)
        self.assert_error(OutOfGround, {"spot": 5}, Trough.filled, 0, Ratio(9, 2), Rain([(1, 3), (5, 3)]))
        self.assert_error(OutOfGround, {"spot": 9}, Trough.filled, 0, 8, Rain([(1, 3), (9, 30)]))
        self.assert_error(InvalidNumber, {"value": Ratio(-1, 2)}, Ring.filled, Ratio(-1, 2), made)


class Kinds(GroundCase):
    def test_subclasses(self):
        self.assertTrue(issubclass(Trough, Ground) and issubclass(Ring, Ground))
        self.assertFalse(issubclass(Trough, Ring) or issubclass(Ring, Trough))
        self.assertNotIsInstance(Ground(), (Trough, Ring))

    def test_equal_to_nothing_of_another_kind(self):
        others = [0, 1, None, True, False, "", "Ground(0)", (), [], Rain(), Ratio(0), Ground, object()]
        for ground in kinds():
            self.assert_equals_none(ground, others)

    def test_grounds_do_not_share_anything(self):
        one, other = Ground(), Ground()
        one.pour(1, 1)
        self.assertEqual([len(one), len(other)], [1, 0])

    def test_results_stay_as_they_were(self):
        for ground in kinds():
            ground.pour(1, 2)
            answers = [ground.rain(), ground.stretches(), ground.changes(), ground.volume]
            ground.pour(2, 2)
            ground.take(1, 2)
            self.assertEqual(answers, [Rain([(1, 2)]), ((0, 2),), [("pour", 1, 2)], 2])

    def test_more_water_never_makes_a_wet_spot_dry(self):
        for make, bags in [(Ground, Lines.BAGS), (lambda: Trough(0, 12), TROUGH_BAGS[:28]),
                           (lambda: Ring(12), RING_BAGS[:26])]:
            for bag, seed in product(bags, (1, 2)):
                ground, wet = make(), set()
                for spot, volume in mixed(bag, seed):
                    ground.pour(ratio(spot), ratio(volume))
                    now = {at for at in range(49) if ground.is_wet(Ratio(at, 4))}
                    self.assertLessEqual(wet, now)
                    wet = now

    def test_as_much_ground_is_wet_as_there_is_volume(self):
        for make, bags in [(Ground, Lines.BAGS), (lambda: Trough(0, 12), TROUGH_BAGS), (lambda: Ring(12), RING_BAGS)]:
            for bag in bags:
                ground = make()
                for spot, volume in bag:
                    ground.pour(ratio(spot), ratio(volume))
                wet = sum([right - left for left, right in ground.stretches()], start=Ratio(0))
                self.assertEqual(wet, ground.volume)

    def test_pouring_in_every_order(self):
        for bag in ([(1, 2), (4, 3), (6, 1), (11, 2)], [(0, 2), (2, 2), (12, 4), (7, 1)]):
            for make in (Ground, lambda: Trough(0, 12), lambda: Ring(12)):
                found = []
                for order in permutations(bag):
                    ground = make()
                    for spot, volume in order:
                        ground.pour(spot, volume)
                    found.append(state(ground)[:4])
                self.assertTrue(all(answer == found[0] for answer in found))


if __name__ == "__main__":
    unittest.main()
