"""Points [23] to [25]: steady rain."""

import unittest
from fractions import Fraction
from itertools import combinations_with_replacement, product

from models import closing_times, groups_at, mean, runnings_of, total
from poolsmeet.errors import PoolError, UnknownIndex
from poolsmeet.layouts import groups
from poolsmeet.rains import Rain
from poolsmeet.ratios import Ratio
from poolsmeet.steady import joined_from, runnings, wet_from
from support import TINY, Case, fraction, fractions, mixed, pair, ratio, run_together, some_pairs

HALF = Fraction(1, 2)

BAGS = [fractions(bag) for bag in [
    [], [(5, 3)], [(0, 1), (0, 1)], [(0, 1), (0, 2), (0, 2)], [(0, 2), (2, 2)], [(0, 2), (3, 2), (4, 1)],
    [(0, 2), (1, 2), (9, 1)], [(0, 1), (9, 2), (10, 2)], [(0, 10), (4, 1), (7, 2)],
    [(-4, 1), (-3, 5), (0, HALF), (3, 5), (4, 1)], [(at, 1) for at in range(5)], [(3 * at, 2) for at in range(40)],
    [(0, 1), (1, 1), (5, 1), (6, 1), (20, 1), (21, 1)], [(0, 1), (1, 1), (2, 1), (50, 3), (53, 3), (56, 3)],
    [(0, 1), (0, 1), (7, 2), (9, 1), (9, 1), (9, 5)], [(4, 1)] * 40, [(1, 1), (2, 2), (4, 4), (8, 8), (16, 16)],
    [(-1, 1), (-1, 1), (1, 1), (1, 1)], [(0, 1), (5, 1), (Fraction(5, 2), 4)],
    [(Fraction(1, 3), Fraction(2, 7)), (HALF, Fraction(1, 9)), (2, 3), (Fraction(11, 3), Fraction(5, 2)), (7, HALF)],
    [(10 ** 9, 10 ** 9), (-(10 ** 9), 10 ** 9), (0, Fraction(1, 1000))],
    [(0, 1), (1, 1), (2 + TINY, 1), (3 + TINY, 1)], [(0, 1), (1, 1), (2 - TINY, 1), (3 - TINY, 1)],
    # The two outer pairs meet at once, and at this very time each of them meets the drop in the middle.
    [(-3, 1), (-1, 1), (0, 1), (1, 1), (3, 1)], [(-4, 1), (-2, 1), (0, 1), (2, 1), (4, 1), (7, 1)],
]]
BAGS += [list(bag) for bag in combinations_with_replacement(fractions(product(range(3), (HALF, 1, 2))), 3)]
BAGS += [some_pairs(many, many * width, width) for many in (6, 15, 40) for width in (8, 120)]
BAGS += [[(Fraction(7 * at, 1000 - at), Fraction(at + 1, 999 - 3 * at)) for at in range(40)]]
TIMES = [closing_times(bag) for bag in BAGS]
CASES = list(zip(BAGS, TIMES))
SMALL = [(bag, times) for bag, times in CASES if len(bag) < 16]


def rain(bag):
    return Rain([(ratio(spot), ratio(volume)) for spot, volume in bag])


def told(triples):
    return [(fraction(time), first, last) for time, first, last in triples]


class Runnings(Case):
    def test_all_rains(self):
        for bag, times in CASES:
            found = list(runnings(rain(bag)))
            for triple in found:
                self.assertIs(type(triple), tuple)
                self.assertEqual([type(part) for part in triple], [Ratio, int, int])
            self.assertEqual(told(found), runnings_of(times))

    def test_no_drop_and_one(self):
        self.assertEqual(list(runnings(Rain())), [])
        self.assertEqual(list(runnings(Rain([(5, 3)]))), [])

    def test_drops_at_one_spot(self):
        self.assertEqual(list(runnings(Rain([(4, 1), (4, 2)]))), [(0, 0, 1)])
        self.assertEqual(list(runnings(Rain([(4, 1)] * 40))), [(0, 0, 39)])
        made = Rain([(9, 1), (0, 1), (9, 5), (7, 2), (0, 1), (9, 1)])
        found = told(runnings(made))
        self.assertEqual(found[:2], [(0, 0, 1), (0, 3, 5)])
        self.assertEqual(found, [(0, 0, 1), (0, 3, 5), (Fraction(2 * (9 - 7), 7 + 2), 2, 5), (
            2 * Fraction(14 + 63, 9) / 11, 0, 5)])

    def test_equal_drops_at_equal_distances(self):
        for many, distance, volume in [(2, 1, 1), (5, 3, 2), (40, Fraction(7, 3), Fraction(2, 5))]:
            made = rain([(distance * at, Fraction(volume)) for at in range(many)])
            self.assertEqual(told(runnings(made)), [(Fraction(distance) / volume, 0, many - 1)])

    def test_several_blocks_at_one_time(self):
        made = Rain([(0, 1), (1, 1), (5, 1), (6, 1), (20, 1), (21, 1), (22, 1)])
        self.assertEqual(told(runnings(made))[:3], [(1, 0, 1), (1, 2, 3), (1, 4, 6)])
        wide = rain([(100 * at + step, Fraction(1)) for at in range(20) for step in (0, 1)])
        self.assertEqual(told(runnings(wide)), [(1, 2 * at, 2 * at + 1) for at in range(20)] + [(50, 0, 39)])

    def test_times_are_in_lowest_terms(self):
        (time, _, _), = runnings(Rain([(0, 2), (1, 4)]))
        self.assertEqual([time.top, time.bottom], [1, 3])
        (time, _, _), = runnings(Rain([(0, 3), (9, 3)]))
        self.assertEqual([time.top, time.bottom], [3, 1])

    def test_against_the_water_at_and_before_and_between_the_times(self):
        for bag, times in SMALL[1:]:
            made = rain(bag)
            found = told(runnings(made))
            moments = [0, *sorted({time for time, _, _ in found if time > 0})]
            standing = groups_at(times, 0)
            for time, later in zip(moments, [*moments[1:], 10 ** 10]):
                if time > 0:
                    earlier, standing = standing, list(groups(made * ratio(time)))
                    news = [(first, last) for moment, first, last in found if moment == time]
                    self.assertEqual(sorted(set(standing) - set(earlier)), news)
                    pools = run_together([(spot, volume * time) for spot, volume in bag])
                    self.assertEqual([pair(pool) for pool in made(ratio(time)).pools()], pools)
                for part in (TINY, HALF, 1 - TINY):
                    self.assertEqual(list(groups(made * ratio(time + (later - time) * part))), standing)
            self.assertEqual(standing, [(0, len(bag) - 1)])

    def test_each_call_begins_anew(self):
        made = rain(BAGS[9])
        whole = told(runnings(made))
        self.assertGreater(len(whole), 1)
        half_read = iter(runnings(made))
        first = next(half_read)
        other = iter(runnings(rain(BAGS[12])))
        next(other)
        self.assertEqual(told(runnings(made)), whole)
        self.assertEqual(told([first, *half_read]), whole)
        self.assertEqual(told(runnings(made)), whole)

    def test_by_name_and_for_rains_in_any_order(self):
        for bag, times in SMALL:
            for order in (bag[::-1], mixed(bag, 3)):
                self.assertEqual(told(runnings(rain=rain(order))), runnings_of(times))

    def test_multiplied_moved_and_mirrored(self):
        for bag, times in SMALL[:40]:
            made = rain(bag)
            found, last = told(runnings(made)), len(bag) - 1
            self.assertEqual(told(runnings(made >> Ratio(22, 7))), found)
            self.assertEqual(told(runnings(made * Ratio(3, 2))), [(time * 2 / 3, one, two) for time, one, two in found])
            mirrored = [(time, last - two, last - one) for time, one, two in found]
            self.assertEqual(told(runnings(-made)), sorted(mirrored))

    def test_the_example_of_the_document(self):
        a = Rain([(0, 2), (3, 2), (4, 1)])
        self.assertEqual([[str(t), i, j] for t, i, j in runnings(a)], [["2/3", 1, 2], ["4/3", 0, 2]])


class Joined(Case):
    def test_all_pairs(self):
        for bag, times in CASES:
            made = rain(bag)
            step = 1 if len(bag) < 16 else 7
            for one, other in product(range(0, len(bag), step), repeat=2):
                low, high = min(one, other), max(one, other)
                self.assert_ratio(joined_from(made, one, other), max(times[low:high], default=0))

    def test_the_same_drop_and_drops_at_one_spot(self):
        made = Rain([(0, 1), (0, 1), (3, 1), (3, 4)])
        for at in range(4):
            self.assert_ratio(joined_from(made, at, at), 0)
        for one, other in [(0, 1), (1, 0), (2, 3), (3, 2)]:
            self.assert_ratio(joined_from(made, one, other), 0)
        self.assert_ratio(joined_from(made, 3, 0), Fraction(6, 7))

    def test_against_the_water(self):
        for bag, _ in SMALL:
            made = rain(bag)
            for one, other in product(range(len(bag)), repeat=2):
                time = joined_from(made, one, other)
                for moment, expected in [(time, True), (time + ratio(TINY), True), (time - ratio(TINY), False)]:
                    if moment > 0:
                        found = [first <= one <= last and first <= other <= last for first, last in
                                 groups(made * moment)]
                        self.assertIs(any(found), expected)

    def test_unknown_indexes(self):
        for many in (0, 1, 3, 40):
            made = rain([(Fraction(5 * at), Fraction(1)) for at in range(many)])
            wrong = [-1, -many, -many - 1, many, many + 1, 10 ** 9, -(10 ** 30)]
            wrong = [index for index in wrong if not 0 <= index < many]
            for index, right in product(wrong, range(0, many, 2)):
                self.assert_error(UnknownIndex, {"index": index}, joined_from, made, index, right)
                self.assert_error(UnknownIndex, {"index": index}, joined_from, made, right, index)
            for index, other in product(wrong, repeat=2):
                self.assert_error(UnknownIndex, {"index": index}, joined_from, made, index, other)

    def test_the_error_is_an_index_error_alone(self):
        with self.assertRaises(IndexError) as caught:
            joined_from(Rain(), 0, 0)
        self.assertNotIsInstance(caught.exception, PoolError)
        self.assertEqual(caught.exception.index, 0)

    def test_by_name(self):
        made = Rain([(0, 2), (3, 2), (4, 1)])
        self.assert_ratio(joined_from(other=1, rain=made, one=0), Fraction(4, 3))
        self.assert_error(UnknownIndex, {"index": 4}, joined_from, other=9, one=4, rain=made)


class Wet(Case):
    def assert_wet_from(self, bag, times, spot):
        """The answer is right by the pools at its time and a little before it."""
        drops = sorted(bag)
        answer = wet_from(rain(bag), ratio(spot))
        self.assertIs(type(answer), tuple)
        self.assertEqual([type(part) for part in answer], [Ratio, int, int])
        time, first, last = told([answer])[0]
        if time == 0:
            self.assertEqual([at for at, drop in enumerate(drops) if drop[0] == spot], list(range(first, last + 1)))
            return
        self.assertNotIn(spot, [at for at, _ in drops])
        self.assertEqual(self.over(drops, times, spot, time), [(first, last)])
        self.assertEqual(self.over(drops, times, spot, time - TINY), [])

    def over(self, drops, times, spot, time):
        """The groups of the pools that cover the spot at this time."""
        found = []
        for first, last in groups_at(times, time):
            pool = drops[first:last + 1]
            if abs(mean(pool) - spot) * 2 <= total(pool) * time:
                found.append((first, last))
        return found

    def test_many_spots(self):
        for bag, times in CASES:
            if bag:
                low, high = min(bag)[0], max(bag)[0]
                spots = [low - 9, low - HALF, low, low + TINY, (low + high) / 2, high - HALF / 3, high, high + 999]
                if len(bag) < 16:
                    spots += [spot for spot, _ in bag] + [low + (high - low) * at / 11 for at in range(-3, 15)]
                for spot in spots:
                    self.assert_wet_from(bag, times, spot)

    def test_where_pools_meet_and_at_their_ends(self):
        for bag, times in SMALL:
            drops = sorted(bag)
            for time in sorted(set(times) - {0}):
                for moment in (time - TINY, time, time + TINY):
                    for first, last in groups_at(times, moment):
                        pool = drops[first:last + 1]
                        for end in (mean(pool) - total(pool) * moment / 2, mean(pool) + total(pool) * moment / 2):
                            self.assert_wet_from(bag, times, end)

    def test_at_the_point_where_two_pools_meet_when_they_meet(self):
        made = Rain([(0, 2), (4, 2), (20, 1)])
        self.assertEqual(wet_from(made, 2), (2, 0, 1))
        self.assertEqual(wet_from(made, Ratio(3, 2)), (Ratio(3, 2), 0, 0))
        self.assertEqual(wet_from(made, Ratio(5, 2)), (Ratio(3, 2), 1, 1))
        equal = Rain([(3 * at, 2) for at in range(6)])
        self.assertEqual(wet_from(equal, Ratio(3, 2)), (Ratio(3, 2), 0, 5))
        self.assertEqual(wet_from(equal, Ratio(27, 2)), (Ratio(3, 2), 0, 5))
        self.assertEqual(wet_from(equal, Ratio(33, 2)), (Ratio(3, 2), 0, 5))

    def test_at_the_spots_of_drops(self):
        made = Rain([(0, 1), (5, 2), (5, 2), (5, 1), (9, 1)])
        self.assertEqual(wet_from(made, 0), (0, 0, 0))
        self.assertEqual(wet_from(made, 5), (0, 1, 3))
        self.assertEqual(wet_from(made, 9), (0, 4, 4))

    def test_far_from_all(self):
        made = Rain([(0, 1), (2, 3)])
        for spot in (10 ** 9, -(10 ** 9), Ratio(10 ** 9, 7)):
            time, first, last = wet_from(made, spot)
            self.assertEqual((first, last), (0, 1))
            self.assert_ratio(time, abs(Fraction(spot.top, spot.bottom) if isinstance(spot, Ratio) else Fraction(
                spot)) / 2 - Fraction(3, 4) * (1 if spot > 0 else -1))

    def test_no_drops(self):
        for spot in (0, 5, Ratio(1, 3), -(10 ** 9)):
            self.assertIs(wet_from(Rain(), spot), None)

    def test_integers_ratios_and_names(self):
        for bag, _ in SMALL[:24]:
            for spot in range(-3, 12):
                answer = wet_from(rain(bag), spot)
                self.assertEqual(wet_from(rain(bag), Ratio(3 * spot, 3)), answer)
                self.assertEqual(wet_from(spot=spot, rain=rain(bag)), answer)
                if answer is not None:
                    self.assertIs(type(answer[0]), Ratio)

    def test_against_the_water(self):
        made = rain(BAGS[9])
        for spot in range(-12, 13):
            time, _, _ = wet_from(made, spot)
            for moment in (time, time + ratio(TINY), time * 2, time + 100):
                if moment > 0:
                    self.assertIs(spot in made(moment), True)
            for moment in (time - ratio(TINY), time.over(2)):
                if 0 < moment < time:
                    self.assertIs(spot in made(moment), False)

    def test_the_example_of_the_document(self):
        t = wet_from(Rain([(0, 2), (3, 2), (4, 1)]), 6)
        self.assertEqual([str(t[0]), t[1], t[2]], ["8/5", 0, 2])


if __name__ == "__main__":
    unittest.main()
