"""Points [13] to [16], with [5] and [6]: water."""

import unittest
from fractions import Fraction
from itertools import combinations, permutations, product

from poolsmeet.errors import PoolError, Touching, UnknownIndex
from poolsmeet.pools import Pool
from poolsmeet.rains import Rain
from poolsmeet.ratios import Ratio
from poolsmeet.waters import Water
from support import TINY, Case, first_touching, fraction, fractions, mixed, pair, pool, ratio, run_together, some_pairs

HALF, QUARTER = Fraction(1, 2), Fraction(1, 4)
OTHER_KINDS = [0, 1, -1, True, False, None, "", "dry", "Water(0)", (), [], {}, (Pool(0, 1),), [Pool(0, 1)], Pool(0, 1),
               Ratio(0), Ratio(1), Rain(), Rain([(0, 1)]), Water, object()]

# Two or more pools for each way in which pools may lie beside one another.
CLUSTERS = [fractions(pairs) for pairs in [
    [], [(0, 1)], [(0, 2), (2, 2)], [(0, 2), (2 + TINY, 2)], [(0, 2), (2 - TINY, 2)], [(5, 1), (5, 1)],
    [(5, 3), (5, 1)], [(-HALF, 1), (HALF, 1), (3, 1)], [(0, 2), (3, 2), (4, 1)], [(0, 2), (1, 2), (9, 1)],
    [(0, 4), (1, 1)],
    [(0, 10), (4, 1), (7, 2)], [(0, 1), (2, 1), (4, 1), (6, 1)], [(0, 1), (1 + TINY, 1), (2 + 2 * TINY, 1), (0, 1)],
    [(0, 1), (0, 1), (0, 1), (3, 1)], [(-7, 3), (-2, 3), (HALF, 3), (Fraction(10, 3), 1)],
    [(0, 6), (4, 1), (Fraction(-11, 2), 3), (12, 9)], [(1, 1), (2, 2), (4, 4), (8, 8), (16, 16)],
    [(0, 1), (10, 1), (5, 8)], [(0, 1), (10, 1), (5, 9)], [(0, 1), (10, 1), (5, 20)],
    [(-30, 3), (30, 3), (0, 54), (0, 1)],
    [(10 ** 9, 10 ** 9), (-(10 ** 9), 10 ** 9), (0, Fraction(1, 1000))],
]]

# The waters whose pools have their ends at these spots, as lists of pairs of ends.
ENDS = range(6)
STRETCHES = [
    list(zip(ends[::2], ends[1::2])) for many in (0, 2, 4, 6) for ends in combinations(ENDS, many)
]


def pools(pairs):
    return [pool(middle, volume) for middle, volume in pairs]


def water(pairs):
    return Water(pools(pairs))


def between(stretches):
    return Water([Pool.between(left, right) for left, right in stretches])


def is_covered(spot, stretches):
    return any(left <= spot <= right for left, right in stretches)


def touching_chain(gap, many):
    """Equal pools with this gap between neighbours."""
    return [((1 + gap) * at, Fraction(1)) for at in range(many)]


class Settled(Case):
    def test_every_order(self):
        for pairs in CLUSTERS:
            expected = run_together(pairs)
            for order in permutations(pairs):
                with self.subTest(order):
                    self.assert_pools(Water.settled(pools(order)), expected)
                    self.assert_pools(Water.settled(tuple(pools(order))), expected)

    def test_many_small_sets_of_pools(self):
        choices = fractions(product(range(5), (HALF, 1, 2)))
        for pairs in combinations(choices, 3):
            expected = run_together(pairs)
            for order in (pairs, pairs[::-1], pairs[1:] + pairs[:1]):
                self.assert_pools(Water.settled(pools(order)), expected)

    def test_pools_that_touch_exactly_and_pools_just_apart(self):
        for one, other in product(fractions([(0, 2), (Fraction(-7, 3), HALF)]), [Fraction(1), Fraction(5, 7)]):
            reach = one[0] + (one[1] + other) / 2
            for shift, many in [(0, 1), (TINY, 2), (-TINY, 1)]:
                pairs = [one, (reach + shift, other)]
                for order in (pairs, pairs[::-1]):
                    made = Water.settled(pools(order))
                    self.assertEqual(len(made), many)
                    self.assert_pools(made, run_together(pairs))

    def test_pools_at_one_spot(self):
        self.assert_pools(Water.settled([Pool(3, 1), Pool(3, 2), Pool(3, 1)]), [(3, 4)])
        self.assert_pools(Water.settled([Pool(3, 1)] * 40), [(3, 40)])

    def test_equal_pools_just_apart(self):
        for gap in (TINY, Fraction(1, 1000), QUARTER):
            chain = touching_chain(gap, 40)
            for order in (chain, chain[::-1], mixed(chain, 1), mixed(chain, 2)):
                self.assert_pools(Water.settled(pools(order)), chain)

    def test_one_more_pool_makes_equal_pools_run_together(self):
        for gap in (TINY, Fraction(1, 1000), Fraction(1, 100)):
            chain = touching_chain(gap, 39)
            for at in (0, 1, 19, 37, 38):
                for spot in (chain[at][0], chain[at][0] + gap / 2 + HALF):
                    everything = chain + [(spot, Fraction(1))]
                    expected = run_together(everything)
                    self.assertLessEqual(len(expected), 1 if gap == TINY else 38)
                    for order in (everything, everything[::-1], mixed(everything, at + 3)):
                        self.assert_pools(Water.settled(pools(order)), expected)

    def test_pools_that_run_together_one_after_another(self):
        # Each pool is apart from the one before it, but begins within the pool of all those before it together.
        chain = [(Fraction(0), HALF), (Fraction(0), Fraction(1))]
        while len(chain) < 40:
            (middle, volume), = run_together(chain)
            low, high = chain[-1][0] + HALF, middle + volume / 2
            self.assertLess(low, high)
            chain.append(((low + high) / 2 + HALF, Fraction(1)))
        (middle, volume), = run_together(chain[:-1])
        apart = chain[:-1] + [(middle + volume / 2 + HALF + TINY, Fraction(1))]
        for pairs, many in [(chain, 1), (apart, 2), (chain[:20] + chain[25:], 16), (chain[1:], 39)]:
            expected = run_together(pairs)
            self.assertEqual(len(expected), many)
            for order in (pairs, pairs[::-1], mixed(pairs, 5), mixed(pairs, 6)):
                self.assert_pools(Water.settled(pools(order)), expected)
                mirrored = [(-middle, volume) for middle, volume in order]
                self.assert_pools(Water.settled(pools(mirrored)), sorted((-at, volume) for at, volume in expected))

    def test_up_to_40_pools(self):
        for many, width in product((5, 12, 25, 40), (20, 60, 200, 900)):
            pairs = some_pairs(many, many * width, width)
            expected = run_together(pairs)
            for order in (pairs, pairs[::-1], mixed(pairs, 7), sorted(pairs), sorted(pairs, reverse=True)):
                self.assert_pools(Water.settled(pools(order)), expected)
                self.assertIsNone(first_touching(expected))

    def test_no_pools_and_one(self):
        self.assert_pools(Water.settled([]), [])
        self.assert_pools(Water.settled(()), [])
        self.assert_pools(Water.settled([Pool(7, 2)]), [(7, 2)])
        self.assertIs(type(Water.settled(())), Water)

    def test_settled_pools_stay(self):
        for pairs in CLUSTERS:
            made = Water.settled(pools(pairs))
            self.assert_pools(Water.settled(list(made.pools())), run_together(pairs))
            self.assert_pools(Water(list(made.pools())), run_together(pairs))

    def test_the_argument_stays_as_it_is_and_may_change_later(self):
        for pairs in CLUSTERS:
            given = pools(pairs)[::-1]
            before = list(given)
            made = Water.settled(given)
            self.assertEqual(len(given), len(before))
            self.assertTrue(all(one is other for one, other in zip(given, before)))
            self.assertEqual([pair(one) for one in given], pairs[::-1])
            given[:] = [Pool(1000, 1)]
            self.assert_pools(made, run_together(pairs))

    def test_by_name_and_off_an_object(self):
        self.assert_pools(Water.settled(pools=[Pool(0, 2), Pool(1, 2)]), [(HALF, 4)])
        self.assert_pools(Water([Pool(9, 1)]).settled([Pool(0, 2)]), [(0, 2)])


class Construction(Case):
    def test_pools_that_ascend_and_are_apart(self):
        for pairs in [run_together(pairs) for pairs in CLUSTERS] + [touching_chain(TINY, 40)]:
            self.assert_pools(Water(pools(pairs)), pairs)
            self.assert_pools(Water(tuple(pools(pairs))), pairs)
            self.assert_pools(Water(pools=pools(pairs)), pairs)

    def test_no_argument(self):
        for made in (Water(), Water(()), Water([]), Water(pools=())):
            self.assert_pools(made, [])

    def test_pools_that_touch(self):
        for pairs in (
            [(0, 2), (2, 2)], [(0, 2), (2 - TINY, 2)], [(0, 2), (0, 2)], [(0, 2), (1, 2)], [(0, 2), (HALF, HALF)],
            [(0, 2), (5, 20)], [(0, 20), (1, 1)], [(0, 1), (0, 2)],
        ):
            self.assert_touching(1, pairs)

    def test_pools_that_are_not_to_the_right(self):
        for pairs in ([(5, 1), (0, 1)], [(5, 1), (4 - TINY, 1)], [(5, 1), (-(10 ** 9), 1)], [(5, 1), (4, 1)]):
            self.assert_touching(1, pairs)

    def test_the_first_wrong_index(self):
        good = [(4 * at, 2) for at in range(40)]
        for at in range(1, 40):
            self.assert_touching(at, good[:at] + [(4 * at - 2, 2)] + good[at + 1:])
            self.assert_touching(at, good[:at] + good[at - 1:])
            self.assert_touching(at, good[:at] + good[:40 - at])
        self.assert_touching(2, [(0, 1), (10, 1), (5, 1)])
        self.assert_touching(2, [(0, 1), (10, 1), (5, 1), (5, 1), (0, 1)])
        self.assert_touching(3, [(0, 1), (10, 1), (20, 1), (0, 100), (1000, 1)])
        self.assert_touching(1, [(0, 1), (0, 1), (0, 1)])
        self.assert_touching(1, good[::-1])

    def assert_touching(self, index, pairs):
        for made in (pools(fractions(pairs)), tuple(pools(fractions(pairs)))):
            self.assert_error(Touching, {"index": index}, Water, made)

    def test_the_argument_stays_as_it_is_and_may_change_later(self):
        given = [Pool(0, 2), Pool(5, 2)]
        made = Water(given)
        self.assertEqual([pair(one) for one in given], [(0, 2), (5, 2)])
        given.append(Pool(0, 1))
        given[0] = Pool(-100, 1)
        self.assert_pools(made, [(0, 2), (5, 2)])
        self.assertEqual([len(made), str(made.left), 0 in made, -100 in made], [2, "-1", True, False])


class Reading(Case):
    def test_length_truth_and_volume(self):
        for stretches in STRETCHES:
            made = between(stretches)
            total = sum(right - left for left, right in stretches)
            self.assertIs(type(len(made)), int)
            self.assertEqual(len(made), len(stretches))
            self.assertIs(bool(made), len(stretches) > 0)
            self.assert_ratio(made.volume, total)
            self.assert_ratio(abs(made), total)

    def test_ends(self):
        for stretches in STRETCHES[1:]:
            made = between(stretches)
            self.assert_ratio(made.left, stretches[0][0])
            self.assert_ratio(made.right, stretches[-1][1])
        self.assertIsNone(Water().left)
        self.assertIsNone(Water().right)

    def test_fractions(self):
        made = water(fractions([(Fraction(1, 3), HALF), (2, Fraction(1, 7))]))
        self.assert_ratio(made.volume, Fraction(9, 14))
        self.assert_ratio(made.left, Fraction(1, 12))
        self.assert_ratio(made.right, Fraction(29, 14))

    def test_pools_by_index(self):
        for stretches in STRETCHES:
            made = between(stretches)
            for at, (left, right) in enumerate(stretches):
                self.assertIs(type(made[at]), Pool)
                self.assertEqual(pair(made[at]), (Fraction(left + right, 2), right - left))

    def test_unknown_indexes(self):
        for stretches in STRETCHES:
            made, many = between(stretches), len(stretches)
            for index in (-1, -2, -many, -many - 1, many, many + 1, 40, 10 ** 30, -(10 ** 30)):
                if not 0 <= index < many:
                    self.assert_error(UnknownIndex, {"index": index}, lambda: made[index])
        with self.assertRaises(IndexError) as caught:
            Water()[0]
        self.assertNotIsInstance(caught.exception, PoolError)

    def test_wet_spots(self):
        for stretches in STRETCHES:
            made = between(stretches)
            for step in range(-4, 4 * len(ENDS)):
                spot = Fraction(step, 4)
                for near in (spot, spot - TINY, spot + TINY):
                    self.assertIs(ratio(near) in made, is_covered(near, stretches))
                    self.assertIs(ratio(near) not in made, not is_covered(near, stretches))

    def test_integer_spots(self):
        made = between([(-3, -1), (2, 3), (7, 9)])
        self.assertEqual([spot for spot in range(-6, 12) if spot in made], [-3, -2, -1, 2, 3, 7, 8, 9])
        self.assertEqual([made(spot) for spot in range(-4, 11)],
                         [None, 0, 0, 0, None, None, 1, 1, None, None, None, 2, 2, 2, None])

    def test_calls(self):
        for stretches in STRETCHES:
            made = between(stretches)
            for step in range(-4, 4 * len(ENDS)):
                for near in (Fraction(step, 4), Fraction(step, 4) - TINY, Fraction(step, 4) + TINY):
                    found = made(ratio(near))
                    expected = [at for at, (left, right) in enumerate(stretches) if left <= near <= right]
                    self.assertEqual([] if found is None else [found], expected)
                    self.assertIn(type(found), (int, type(None)))

    def test_calls_by_name(self):
        made = between([(0, 1), (2, 3)])
        self.assertEqual([made(spot=3), made(spot=Ratio(1, 2)), made(spot=Ratio(3, 2))], [1, 0, None])

    def test_water_without_pools(self):
        made = Water()
        self.assertIsNone(made(0))
        self.assertIs(0 in made, False)
        self.assert_ratio(made.volume, 0)
        self.assert_ratio(abs(made), 0)


class Sums(Case):
    def test_sums_in_either_order(self):
        for one, other in product(STRETCHES, STRETCHES[::3]):
            first, second = between(one), between(other)
            pairs = [(Fraction(left + right, 2), Fraction(right - left)) for left, right in one + other]
            self.assert_pools(first + second, run_together(pairs))
            self.assert_pools(second + first, run_together(pairs))

    def test_sums_of_clusters(self):
        for one, other in product(CLUSTERS, CLUSTERS):
            expected = run_together(one + other)
            made = Water.settled(pools(one)) + Water.settled(pools(other))
            self.assertIs(type(made), Water)
            self.assert_pools(made, expected)

    def test_the_empty_water_and_itself(self):
        for stretches in STRETCHES:
            made = between(stretches)
            pairs = [pair(one) for one in made.pools()]
            self.assert_pools(made + Water(), pairs)
            self.assert_pools(Water() + made, pairs)
            self.assert_pools(made + made, run_together(pairs + pairs))

    def test_more_than_40_pools(self):
        one, other = touching_chain(Fraction(5), 40), touching_chain(Fraction(3), 40)
        self.assert_pools(water(one) + water(other), run_together(one + other))
        apart = [(middle + 3, volume) for middle, volume in one]
        self.assert_pools(water(one) + water(apart), sorted(one + apart))

    def test_no_wet_spot_becomes_dry(self):
        for one, other in product(CLUSTERS[:18], CLUSTERS[:18]):
            first, second = Water.settled(pools(one)), Water.settled(pools(other))
            self.assertIs(first <= first + second, True)
            self.assertIs(first + second >= second, True)

    def test_an_assignment_makes_a_new_water(self):
        first = made = between([(0, 1)])
        made += between([(5, 6)])
        made >>= 2
        made <<= Ratio(1, 2)
        self.assert_pools(made, [(2, 1), (7, 1)])
        self.assert_pools(first, [(HALF, 1)])


class Comparisons(Case):
    def test_equality(self):
        for one, other in product(STRETCHES, STRETCHES):
            self.assertIs(between(one) == between(other), one == other)
            self.assertIs(between(one) != between(other), one != other)

    def test_equality_of_close_waters(self):
        made = water([(0, 2), (5, 2)])
        for pairs in ([(0, 2), (5 + TINY, 2)], [(0, 2 - TINY), (5, 2)], [(0, 2)], [(0, 2), (5, 2), (9, 1)], [(5, 2)]):
            self.assertIs(made == water(pairs), False)
            self.assertIs(made != water(pairs), True)
        self.assertIs(made == Water.settled([Pool(5, 1), Pool(0, 1), Pool(Ratio(10, 2), 1), Pool(0, 1)]), True)

    def test_equality_with_values_of_other_kinds(self):
        for made in (Water(), between([(0, 1)]), Water([Pool(0, 1)])):
            self.assert_equals_none(made, OTHER_KINDS)

    def test_order(self):
        # Between two neighbouring ends, a spot in the middle tells for the whole stretch.
        spots = [Fraction(step, 2) for step in range(2 * len(ENDS))]
        wet = [{spot for spot in spots if is_covered(spot, stretches)} for stretches in STRETCHES]
        for (one, first), (other, second) in product(zip(STRETCHES, wet), zip(STRETCHES, wet)):
            left, right = between(one), between(other)
            self.assertIs(left <= right, first <= second)
            self.assertIs(left < right, first < second)
            self.assertIs(left >= right, first >= second)
            self.assertIs(left > right, first > second)

    def test_order_of_close_waters(self):
        low = between([(0, 2), (4, 6)])
        high = Water([pool(1, 2), pool(5, 2 + TINY)])
        beside = Water([pool(1, 2), pool(5 + TINY, 2)])
        self.assertEqual([low <= high, low < high, low >= high, low > high], [True, True, False, False])
        self.assertEqual([high <= low, high < low, high >= low, high > low], [False, False, True, True])
        self.assertEqual([low <= beside, low < beside, low >= beside, low > beside], [False] * 4)

    def test_order_of_equal_and_empty_waters(self):
        for made in (Water(), between([(0, 1)]), between([(0, 1), (2, 3)])):
            same = Water(list(made.pools()))
            self.assertEqual([made <= same, made < same, made >= same, made > same], [True, False, True, False])
            self.assertEqual([made <= made, made < made, made >= made, made > made], [True, False, True, False])
        made = between([(0, 1)])
        self.assertEqual([Water() <= made, Water() < made, Water() >= made, Water() > made], [True, True, False, False])
        self.assertEqual([made <= Water(), made < Water(), made >= Water(), made > Water()], [False, False, True, True])


class Moves(Case):
    def test_moves(self):
        for stretches in STRETCHES:
            made = between(stretches)
            pairs = [pair(one) for one in made.pools()]
            for move in (0, 3, -4, Fraction(5, 3), Fraction(-1, 7), 10 ** 9):
                for given in [ratio(move)] + ([move] if isinstance(move, int) else []):
                    self.assert_pools(made >> given, [(middle + move, volume) for middle, volume in pairs])
                    self.assert_pools(made << given, [(middle - move, volume) for middle, volume in pairs])

    def test_mirror_images(self):
        for stretches in STRETCHES:
            made = between(stretches)
            mirrored = [(-middle, volume) for middle, volume in map(pair, made.pools())]
            self.assert_pools(-made, mirrored[::-1])
            self.assert_pools(-(-made), map(pair, made.pools()))
        self.assert_pools(-water([(-5, 1), (0, 3), (7, 2)]), [(-7, 2), (0, 3), (5, 1)])

    def test_results_are_waters(self):
        made = between([(0, 1), (2, 3)])
        for result in (made >> 1, made << 1, -made, made + made, made >> Ratio(1, 2)):
            self.assertIs(type(result), Water)


class Generators(Case):
    def test_pools(self):
        for stretches in STRETCHES:
            found = [(fraction(one.left), fraction(one.right)) for one in between(stretches).pools()]
            self.assertEqual(found, stretches)

    def test_gaps(self):
        for stretches in STRETCHES:
            gaps = tuple(between(stretches).gaps())
            self.assert_pairs(gaps, [(before[1], after[0]) for before, after in zip(stretches, stretches[1:])])
        self.assert_pairs(tuple(water([(0, HALF), (1, Fraction(1, 3))]).gaps()), [(QUARTER, Fraction(5, 6))])

    def test_no_gaps(self):
        for made in (Water(), between([(0, 1)]), between([(-5, 90)])):
            self.assertEqual(list(made.gaps()), [])

    def test_each_call_begins_anew(self):
        made = between([(0, 1), (2, 3), (4, 5)])
        for call in (made.pools, made.gaps):
            whole = list(call())
            self.assertEqual(list(call()), whole)
            half = iter(call())
            self.assertEqual(next(half), whole[0])
            self.assertEqual(list(call()), whole)
            beside = iter(call())
            self.assertEqual([next(beside), next(half), next(beside)], [whole[0], whole[1], whole[1]])
            self.assertEqual(list(call()), whole)
            self.assertEqual(list(half), whole[2:])
            self.assertEqual(list(beside), whole[2:])
            self.assertEqual(list(call()), whole)

    def test_both_generators_side_by_side(self):
        made = between([(0, 1), (2, 3), (4, 5)])
        found = [(fraction(one.left), fraction(left)) for one, (left, _) in zip(made.pools(), made.gaps())]
        self.assertEqual(found, [(0, 1), (2, 3)])
        pairs = [(fraction(one.left), fraction(other.left)) for one in made.pools() for other in made.pools()]
        self.assertEqual(pairs, list(product((0, 2, 4), (0, 2, 4))))


class Texts(Case):
    def test_repr(self):
        for stretches in STRETCHES:
            self.assertEqual(repr(between(stretches)), f"Water({len(stretches)})")
        self.assertEqual(repr(water(touching_chain(TINY, 40))), "Water(40)")

    def test_str(self):
        self.assertEqual(str(Water()), "dry")
        self.assertEqual(str(between([(0, 1)])), "           0            1            1")
        self.assertEqual(
            str(water([(-3, HALF), (2, Fraction(1, 3))])),
            "       -13/4        -11/4          1/2\n        11/6         13/6          1/3",
        )
        self.assertEqual(f"{between([(0, 1)])}", "           0            1            1")

    def test_str_of_texts_about_12_columns_long(self):
        for digits in (10, 11, 12, 13, 30):
            number = 10 ** digits - 1
            text = "9" * digits
            made = Water([Pool.between(-number, -number + 1), Pool.between(number - 1, number)])
            first, second = str(made).split("\n")
            self.assertEqual(first, " ".join([("-" + text).rjust(12), ("-" + text[1:] + "8").rjust(12), "1".rjust(12)]))
            self.assertEqual(second, " ".join([(text[1:] + "8").rjust(12), text.rjust(12), "1".rjust(12)]))

    def test_str_of_longer_texts(self):
        made = Water([Pool.between(Ratio(-1234567, 234568), Ratio(1, 1234567890123))])
        left, right, volume = str(made[0].left), str(made[0].right), str(made[0].volume)
        self.assertGreater(min(map(len, (left, right, volume))), 12)
        self.assertEqual(str(made), f"{left} {right} {volume}")

    def test_lines(self):
        for stretches in STRETCHES[1:]:
            lines = [f"{left:>12} {right:>12} {right - left:>12}" for left, right in stretches]
            self.assertEqual(str(between(stretches)), "\n".join(lines))


class Lasting(Case):
    def test_operands_stay_as_they_are_and_answers_too(self):
        def answers(one, other):
            return [
                len(one), bool(one), one[0], one.volume, abs(one), one.left, one.right, 1 in one, one(1), one(9),
                one + other, other + one, one == other, one != other, one <= other, one < other, one >= other,
                one > other, one >> 2, one << Ratio(1, 2), -one, list(one.pools()), list(one.gaps()), repr(one),
                str(one), Water.settled(list(one.pools()) + list(other.pools())), one + one,
            ]

        first, second = between([(0, 2), (4, 6)]), between([(1, 3), (4, 5)])
        before = answers(first, second)
        for _ in range(3):
            self.assertEqual(answers(second, first)[10], before[10])
            self.assertEqual(answers(first, second), before)
            self.assertRaises(UnknownIndex, lambda: first[7])
            self.assertRaises(Touching, Water, [Pool(0, 1), Pool(0, 1)])
        self.assert_pools(first, [(1, 2), (5, 2)])
        self.assert_pools(second, [(2, 2), (Fraction(9, 2), 1)])


if __name__ == "__main__":
    unittest.main()
