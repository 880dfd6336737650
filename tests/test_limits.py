"""Points [3], [4], [13] and [15] at their limits: 40 drops and pools in many orders, with great and unlike numbers."""

import unittest
from fractions import Fraction
from itertools import product

from poolsmeet.layouts import berths, groups, layout, layout_holds, pushes, settle, shifts, work
from poolsmeet.pools import Pool
from poolsmeet.rains import Rain
from poolsmeet.ratios import Ratio
from poolsmeet.waters import Water
from support import TINY, Case, fractions, mixed, pair, ratio, run_together, some_pairs

HALF = Fraction(1, 2)
GREAT = 10 ** 9


def unlike(many):
    """Drops apart from each other whose denominators, up to 1000, are all different."""
    return [(Fraction(5 * at * at + 1, 1000 - at), Fraction(3 + at % 5, 3 * (999 - 2 * at))) for at in range(many)]


FORTIES = [
    [(Fraction(20 * at, 7), Fraction(3 + at % 5, 7)) for at in range(40)], unlike(40), some_pairs(40, 1, 90),
    [(Fraction(at % 4), Fraction(1 + at % 3)) for at in range(40)], [(Fraction(5), Fraction(2))] * 40,
    [(Fraction((-1) ** at * (GREAT - at), 1 + at % 7), Fraction(GREAT - at, 1000 - at)) for at in range(40)],
    [(Fraction(at, 1000), Fraction(1, 1000 - at)) for at in range(-20, 20)],
    [(1 + at * TINY, 1 - at * TINY) for at in map(Fraction, range(40))],
]


def orders(items):
    """The items from the left, from the right, from both sides by turns, and in orders without a plan."""
    rows = sorted(items)
    turns = [rows[at // 2] if at % 2 else rows[-1 - at // 2] for at in range(len(rows))]
    return [rows, rows[::-1], turns, turns[::-1], rows[20:] + rows[:20], mixed(rows, 1), mixed(rows, 2), mixed(rows, 3)]


def drops(bag):
    return [(ratio(spot), ratio(volume)) for spot, volume in bag]


def pools(bag):
    return [Pool(ratio(middle), ratio(volume)) for middle, volume in bag]


class ManyOrders(Case):
    def test_rains_of_40_drops(self):
        for bag in FORTIES:
            made = Rain(drops(sorted(bag)))
            for order in orders(bag):
                other = Rain(drops(order))
                self.assert_pairs(other.drops, sorted(bag))
                self.assertIs(other == made, True)
                self.assertIs(Rain(tuple(drops(order))) == made, True)

    def test_mirrored_rains_and_sums_and_texts(self):
        for bag in FORTIES:
            made = Rain(drops(bag))
            self.assert_pairs((-made).drops, sorted((-spot, volume) for spot, volume in bag))
            for order in orders(bag):
                one, other = Rain(drops(order[:25])), Rain(drops(order[25:]))
                self.assert_pairs((one + other).drops, sorted(bag))
                self.assert_pairs((other + one).drops, sorted(bag))
                self.assertEqual(made - one, other)
                self.assertEqual(Rain.read("\n".join(f"{spot} {volume}" for spot, volume in drops(order))), made)

    def test_settled_pools(self):
        for bag in FORTIES:
            expected = run_together(bag)
            for order in orders(bag):
                self.assert_pools(Water.settled(pools(order)), expected)

    def test_equal_spots_with_volumes_in_any_order(self):
        bag = [(Fraction(at % 3, 7), Fraction(1 + at * 17 % 40, 11)) for at in range(40)]
        for order in orders(bag) + [bag]:
            self.assert_pairs(Rain(drops(order)).drops, sorted(bag))


class ManyPools(Case):
    def chain(self, change=None):
        """40 pools that do not touch; one of them may be changed."""
        bag = [(Fraction(20 * at, 7), Fraction(3, 7)) for at in range(40)]
        if change is not None:
            at, shift, more = change
            bag[at] = bag[at][0] + shift, bag[at][1] + more
        return Water(pools(bag))

    def assert_order(self, one, other, below, above):
        """Compare both ways; below and above tell whether one lies in the other and the other in one."""
        equal = below and above
        self.assertEqual([one <= other, other >= one, one >= other, other <= one], [below, below, above, above])
        self.assertEqual([one < other, other > one], [below and not equal] * 2)
        self.assertEqual([one > other, other < one], [above and not equal] * 2)
        self.assertEqual([one == other, one != other], [equal, not equal])
        for answer in (one <= other, one < other, one >= other, one > other):
            self.assertIs(type(answer), bool)

    def test_two_waters_that_differ_in_one_pool(self):
        for at in range(40):
            for tiny in (TINY, Fraction(1, 7)):
                self.assert_order(self.chain(), self.chain((at, 0, tiny)), True, False)
                self.assert_order(self.chain(), self.chain((at, 0, -tiny)), False, True)
                self.assert_order(self.chain(), self.chain((at, tiny, 0)), False, False)
                self.assert_order(self.chain(), self.chain((at, tiny / 2, tiny)), True, False)
                self.assert_order(self.chain(), self.chain((at, -tiny / 2, tiny)), True, False)
                self.assert_order(self.chain(), self.chain((at, tiny / 2, -tiny)), False, True)

    def test_equal_waters(self):
        made = self.chain()
        self.assert_order(made, made, True, True)
        self.assert_order(made, self.chain(), True, True)

    def test_one_pool_less_or_more(self):
        whole = list(self.chain().pools())
        for at in range(40):
            self.assert_order(Water(whole[:at] + whole[at + 1:]), Water(whole), True, False)
        self.assert_order(Water(), Water(whole), True, False)
        self.assert_order(Water(whole[:20]), Water(whole[20:]), False, False)
        self.assert_order(Water(whole), Water([Pool(57, 200)]), True, False)
        self.assert_order(Water(whole), Water([Pool(57, 100)]), False, False)

    def test_several_pools_within_one(self):
        parts = Water([Pool(at, Ratio(1, 2)) for at in range(40)])
        for left, right, inside in [
            (-1, 40, True), (Ratio(-1, 4), Ratio(157, 4), True), (0, 40, False), (-1, 39, False),
        ]:
            self.assert_order(parts, Water([Pool.between(left, right)]), inside, False)
        halves = Water([Pool.between(-1, Ratio(77, 4)), Pool.between(Ratio(79, 4), 40)])
        self.assert_order(parts, halves, True, False)
        cut = Water([Pool.between(-1, 19), Pool.between(Ratio(79, 4), 40)])
        self.assert_order(parts, cut, False, False)

    def test_against_single_spots(self):
        for one, other in product(FORTIES[:4], repeat=2):
            first, second = Rain(drops(one))(Ratio(1, 3)), Rain(drops(other))(1)
            self.assertIs(first <= second, all(
                second(pool.left) is not None and second(pool.left) == second(pool.right) for pool in first.pools()))

    def test_wet_spots(self):
        made = self.chain()
        for at in range(40):
            for shift, wet in [(0, True), (Fraction(3, 14), True), (Fraction(3, 14) + TINY, False)]:
                for sign in (1, -1):
                    spot = ratio(Fraction(20 * at, 7) + sign * shift)
                    self.assertEqual(made(spot), at if wet else None)
                    self.assertIs(spot in made, wet)


class ManyDrops(Case):
    def test_layouts(self):
        for bag in FORTIES:
            for made in (Rain(drops(bag)), Rain(drops(bag)) * Ratio(1, 999)):
                found = [layout(made), berths(made), pushes(made), shifts(made), work(made), groups(made)]
                self.assertEqual(found[0], (found[1], found[2]))
                self.assertIs(layout_holds(made, found[0]), True)
                self.assertEqual([pushes(made), work(made), berths(made), groups(made), layout(made), shifts(made)], [
                    found[2], found[4], found[1], found[5], found[0], found[3]])
                self.assertEqual([middle for middle, _ in map(pair, settle(made).pools())], [
                    middle for middle, _ in run_together([(Fraction(spot.top, spot.bottom), Fraction(
                        volume.top, volume.bottom)) for spot, volume in made.drops])])

    def test_the_water_of_a_sum(self):
        for one, other in product(FORTIES, repeat=2):
            first, second = Rain(drops(one[:20])), Rain(drops(other[20:]))
            self.assertEqual((first + second)(1), first(1) + second(1))
            self.assertEqual(second(1) + first(1), first(1) + second(1))

    def test_integers_and_ratios(self):
        whole = [(GREAT - 7 * at, GREAT - at) for at in range(20)] + [(3 * at - GREAT, at + 1) for at in range(20)]
        whole = fractions(whole)
        integers = Rain([(spot.numerator, volume.numerator) for spot, volume in whole])
        self.assertEqual(integers, Rain(drops(whole)))
        self.assert_pools(integers(1), run_together(whole))
        self.assert_pools(integers(Ratio(1, GREAT)), run_together([(spot, volume / GREAT) for spot, volume in whole]))


if __name__ == "__main__":
    unittest.main()
