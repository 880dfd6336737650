"""Points [17] to [19], with [4]: rain."""

import unittest
from collections import Counter
from fractions import Fraction
from itertools import combinations_with_replacement, permutations, product

from poolsmeet.errors import Full, InvalidDrop, InvalidNumber, InvalidText, InvalidTime, MissingDrop, PoolError
from poolsmeet.pools import Pool
from poolsmeet.rains import Rain
from poolsmeet.ratios import Ratio
from poolsmeet.waters import Water
from support import ANY_VALUES, DEEP, TINY, Case, fractions, mixed, pair, ratio, run_together, some_pairs

HALF = Fraction(1, 2)
DROPS = fractions([(0, 1), (0, 2), (1, 1), (Fraction(-7, 3), HALF)])
BAGS = [list(bag) for many in range(4) for bag in combinations_with_replacement(DROPS, many)]
FORTY = [(Fraction(at % 13, 3), Fraction(at % 4 + 1)) for at in range(40)]
OTHER_KINDS = [0, 1, True, False, None, "", "0 1", "Rain(0)", (), [], {}, ((0, 1),), [(0, 1)], (0, 1), Ratio(0),
               Ratio(1), Pool(0, 1), Water(), Water([Pool(0, 1)]), Rain, object()]


def rain(pairs):
    return Rain([(ratio(spot), ratio(volume)) for spot, volume in fractions(pairs)])


def in_either_kind(number):
    """The number as a ratio, and also as an integer if it is whole."""
    number = Fraction(number)
    return [ratio(number)] + ([number.numerator] if number.denominator == 1 else [])


class RainCase(Case):
    def assert_rain(self, value, expected):
        """The value is a rain with these drops, in order."""
        self.assertIs(type(value), Rain)
        self.assert_pairs(value.drops, sorted(fractions(expected)))
        self.assertEqual(len(value), len(value.drops))

    def assert_water(self, value, expected):
        self.assertIs(type(value), Water)
        self.assertEqual([pair(one) for one in value.pools()], expected)


class Construction(RainCase):
    def test_drops_in_every_order(self):
        more = [fractions([(0, 2), (0, 1), (0, 1), (0, HALF)]), fractions([(3, 1), (-2, 5), (1, 9), (1, 2)])]
        for bag in [*BAGS, DROPS, *more]:
            for order in permutations(bag):
                self.assert_rain(rain(order), bag)

    def test_numbers_of_both_kinds(self):
        for spot, one, other in product(*map(in_either_kind, (3, 2, 1))):
            self.assert_rain(Rain([(spot, one), (spot, other)]), [(3, 1), (3, 2)])
        self.assert_rain(Rain([(Ratio(4, 2), 1), (2, Ratio(3, 3)), (Ratio(-1, 2), Ratio(1, 3))]),
                         [(-HALF, Fraction(1, 3)), (2, 1), (2, 1)])

    def test_order_of_close_drops(self):
        third = Fraction(1, 3)
        close = [(third, 1 + TINY), (third, 1), (third - TINY, 9), (third + TINY, HALF)]
        for order in permutations(close):
            self.assert_rain(rain(order), close)
        self.assert_rain(rain([(10, 1), (9, 2), (-10, 3), (-9, 4), (100, 5)]),
                         [(-10, 3), (-9, 4), (9, 2), (10, 1), (100, 5)])

    def test_lists_tuples_and_names(self):
        for given in ([(1, 2), (0, 1)], ((1, 2), (0, 1))):
            self.assert_rain(Rain(given), [(0, 1), (1, 2)])
            self.assert_rain(Rain(drops=given), [(0, 1), (1, 2)])

    def test_no_drops(self):
        for made in (Rain(), Rain(()), Rain([]), Rain(drops=())):
            self.assert_rain(made, [])
            self.assertEqual(made.drops, ())
            self.assertIs(made.middle, None)
            self.assert_ratio(made.volume, 0)
            self.assert_ratio(abs(made), 0)

    def test_up_to_40_drops(self):
        for many in (1, 39, 40):
            for order in (FORTY[:many], FORTY[:many][::-1], mixed(FORTY[:many], many)):
                self.assert_rain(rain(order), FORTY[:many])
        self.assert_rain(Rain([(0, 1)] * 40), [(0, 1)] * 40)

    def test_limit(self):
        self.assertIs(type(Rain.LIMIT), int)
        self.assertEqual([Rain.LIMIT, Rain().LIMIT], [40, 40])

    def test_the_argument_stays_as_it_is_and_may_change_later(self):
        given = [(3, 1), (0, 2)]
        made = Rain(given)
        self.assertEqual(given, [(3, 1), (0, 2)])
        given[0] = (7, 7)
        given.append((9, 9))
        self.assert_rain(made, [(0, 2), (3, 1)])


class WrongDrops(RainCase):
    def test_more_than_40_items(self):
        for many in (41, 42, 60, 200):
            for given in (
                [(0, 1)] * many, ((0, 1),) * many, [None] * many, [(0, 0)] * many, [(0, 1)] * (many - 1) + [True],
            ):
                self.assert_error(Full, {"limit": 40}, Rain, given)

    def test_every_value_that_is_no_drop(self):
        good = (0, 1)
        for place, value in enumerate([*ANY_VALUES, DEEP]):
            with self.subTest(place=place):
                for given, at in [
                    ([value], 0), ((value,), 0), ([good, value], 1), ([value, good], 0),
                    ([good, value, good, value], 1), ([good] * 39 + [value], 39), ([value] + [good] * 39, 0),
                    ([value] * 40, 0),
                ]:
                    self.assert_error(InvalidDrop, {"index": at}, Rain, given)

    def test_parts_that_are_no_numbers(self):
        for value in ("1", "", True, False, None, (), (1,), [1], "1/2"):
            for item in ((value, 1), (1, value), (value, value), (Ratio(1), value), (value, Ratio(1, 2))):
                self.assert_error(InvalidDrop, {"index": 1}, Rain, [(2, 3), item, (0, 0)])

    def test_lists_are_no_drops(self):
        self.assert_error(InvalidDrop, {"index": 0}, Rain, [[0, 1]])
        self.assert_error(InvalidDrop, {"index": 1}, Rain, ((0, 1), [0, 1]))
        self.assert_error(InvalidDrop, {"index": 0}, Rain, [[Ratio(1), Ratio(1)]])

    def test_a_wrong_number_of_parts(self):
        for item in ((), (1,), (1, 2, 3), (1, 2, None), ((1, 2),), ((1, 2), (3, 4))):
            self.assert_error(InvalidDrop, {"index": 2}, Rain, [(5, 1), (5, 1), item])

    def test_a_volume_that_is_not_positive(self):
        for volume in (0, -1, -(10 ** 9), Ratio(0), Ratio(-1, 1000), ratio(-TINY)):
            self.assert_error(InvalidDrop, {"index": 0}, Rain, [(5, volume)])
            self.assert_error(InvalidDrop, {"index": 1}, Rain, [(5, ratio(TINY)), (1, volume), (0, volume)])
        self.assert_rain(Rain([(0, ratio(TINY)), (-5, 1)]), [(0, TINY), (-5, 1)])

    def test_the_index_is_that_of_the_argument(self):
        self.assert_error(InvalidDrop, {"index": 3}, Rain, [(9, 1), (8, 1), (7, 1), (-100, 0)])
        self.assert_error(InvalidDrop, {"index": 0}, Rain, [(100, 0), (7, 1), (-8, 1)])


class Sums(RainCase):
    def test_volume_and_length(self):
        for bag in [*BAGS, FORTY]:
            made, total = rain(bag), sum(volume for _, volume in bag)
            self.assert_ratio(made.volume, total)
            self.assert_ratio(abs(made), total)
            self.assertIs(type(len(made)), int)
            self.assertEqual(len(made), len(bag))
            self.assertIs(bool(made), len(bag) > 0)

    def test_middle(self):
        for bag in [*BAGS[1:], FORTY, some_pairs(40, 5)]:
            moment = sum(spot * volume for spot, volume in bag)
            self.assert_ratio(rain(bag).middle, moment / sum(volume for _, volume in bag))
        self.assert_ratio(Rain([(-3, 1), (3, 1)]).middle, 0)
        self.assert_ratio(Rain([(0, 1), (4, 3)]).middle, 3)


class Bags(RainCase):
    def test_sums(self):
        for one, other in product(BAGS, BAGS):
            self.assert_rain(rain(one) + rain(other), one + other)
            self.assert_rain(rain(other) + rain(one), one + other)

    def test_sums_up_to_40_drops(self):
        for many in (0, 1, 20, 39, 40):
            self.assert_rain(rain(FORTY[:many]) + rain(FORTY[many:]), FORTY)
        self.assert_rain(rain(FORTY[::2]) + rain(FORTY[1::2]), FORTY)

    def test_sums_with_more_than_40_drops(self):
        for one, other in [(40, 1), (1, 40), (40, 40), (21, 20), (20, 21)]:
            self.assert_error(Full, {"limit": 40}, lambda: rain(FORTY[:one]) + rain(FORTY[:other]))

    def test_differences(self):
        for one, other in product(BAGS, BAGS):
            left, missing = sorted(one), []
            for drop in sorted(other):
                if drop in left:
                    left.remove(drop)
                else:
                    missing.append(drop)
            if missing:
                spot, amount = missing[0]
                expected = {"spot": ratio(spot), "amount": ratio(amount)}
                self.assert_error(MissingDrop, expected, lambda: rain(one) - rain(other))
            else:
                self.assert_rain(rain(one) - rain(other), left)

    def test_single_differences(self):
        have = Rain([(0, 1), (0, 1), (1, 2), (5, 1)])
        self.assert_rain(have - Rain([(0, 1)]), [(0, 1), (1, 2), (5, 1)])
        self.assert_rain(have - Rain([(5, 1), (0, 1), (0, 1)]), [(1, 2)])
        self.assert_rain(have - have, [])
        self.assert_rain(have - Rain(), [(0, 1), (0, 1), (1, 2), (5, 1)])
        self.assert_rain(Rain() - Rain(), [])
        for drops, spot, amount in [
            ([(0, 2)], 0, 2), ([(0, 1)] * 3, 0, 1), ([(5, 1), (5, 1)], 5, 1), ([(9, 1), (7, 1), (8, 1)], 7, 1),
            ([(0, 2), (-1, 1)], -1, 1), ([(3, 9), (3, 2), (5, 1)], 3, 2), ([(0, 1)] * 3 + [(1, 3)], 0, 1),
            ([(Ratio(1, 2), Ratio(1, 3))], Ratio(1, 2), Ratio(1, 3)), ([(1, 1), (0, 1), (6, 6)], 1, 1),
        ]:
            self.assert_error(MissingDrop, {"spot": spot, "amount": amount}, lambda: have - Rain(drops))
        self.assert_error(MissingDrop, {"spot": 0, "amount": 1}, lambda: Rain() - have)

    def test_sum_and_difference_together(self):
        for one, other in product(BAGS, BAGS):
            self.assert_rain(rain(one) + rain(other) - rain(other), one)

    def test_products(self):
        for bag in BAGS:
            for k in (1, 2, 10 ** 9, HALF, Fraction(7, 3), TINY):
                for number in in_either_kind(k):
                    expected = [(spot, volume * k) for spot, volume in bag]
                    self.assert_rain(rain(bag) * number, expected)
                    self.assert_rain(number * rain(bag), expected)

    def test_products_with_numbers_that_are_not_positive(self):
        for bag in (BAGS[0], BAGS[1], FORTY):
            made = rain(bag)
            for number in (0, -1, -(10 ** 9), Ratio(0), Ratio(-1, 3), ratio(-TINY)):
                self.assert_error(InvalidNumber, {"value": number}, lambda: made * number)
                self.assert_error(InvalidNumber, {"value": number}, lambda: number * made)

    def test_moves(self):
        for bag in [*BAGS, FORTY]:
            for move in (0, 3, -4, Fraction(5, 3), Fraction(-1, 7), 10 ** 9):
                for number in in_either_kind(move):
                    self.assert_rain(rain(bag) >> number, [(spot + move, volume) for spot, volume in bag])
                    self.assert_rain(rain(bag) << number, [(spot - move, volume) for spot, volume in bag])

    def test_mirror_images(self):
        for bag in [*BAGS, FORTY]:
            self.assert_rain(-rain(bag), [(-spot, volume) for spot, volume in bag])
            self.assert_rain(-(-rain(bag)), bag)

    def test_an_assignment_makes_a_new_rain(self):
        first = made = Rain([(0, 1)])
        made += Rain([(2, 3)])
        made *= 2
        made >>= 1
        made <<= Ratio(1, 2)
        made -= Rain([(Ratio(1, 2), 2)])
        self.assert_rain(made, [(Fraction(5, 2), 6)])
        self.assert_rain(first, [(0, 1)])


class Comparisons(RainCase):
    def test_equality(self):
        for one, other in product(BAGS, BAGS):
            same = Counter(one) == Counter(other)
            self.assertIs(rain(one) == rain(other[::-1]), same)
            self.assertIs(rain(one) != rain(other[::-1]), not same)

    def test_single_cases(self):
        for one, other, same in [
            ([(0, 1), (0, 1)], [(0, 1)], False), ([(0, 1), (0, 1)], [(0, 2)], False), ([(0, 1)], [(1, 1)], False),
            ([(0, 1)], [(Ratio(0, 3), Ratio(2, 2))], True), ([(0, 1), (0, 1), (1, 1)], [(0, 1), (1, 1), (1, 1)], False),
            ([(0, 1)], [(ratio(TINY), 1)], False), ([(1, 1), (0, 2)], [(0, 2), (1, 1)], True),
            ([(-1, 2)], [(1, 2)], False),
        ]:
            self.assertIs(Rain(one) == Rain(other), same)
            self.assertIs(Rain(other) != Rain(one), not same)
        self.assertIs(rain(FORTY) == rain(mixed(FORTY, 3)), True)

    def test_equality_with_values_of_other_kinds(self):
        for made in (Rain(), Rain([(0, 1)])):
            self.assert_equals_none(made, OTHER_KINDS)

    def test_drops_in_a_rain(self):
        for bag in BAGS:
            made = rain(bag)
            for spot, volume in [*DROPS, (1, 0), (0, 3), (2, 1), (0, HALF), (HALF, 1), (0, 1 + TINY), (-TINY, 1)]:
                for drop in product(in_either_kind(spot), in_either_kind(volume)):
                    self.assertIs(drop in made, (spot, volume) in bag)
                    self.assertIs(drop not in made, (spot, volume) not in bag)


class Times(RainCase):
    def test_the_water_at_many_times(self):
        for bag in [*BAGS, FORTY, some_pairs(40, 8, 900), some_pairs(7, 9)]:
            for time in (TINY, Fraction(1, 9), HALF, 1, 2, Fraction(17, 3), 1000, 10 ** 9):
                expected = run_together([(spot, volume * time) for spot, volume in bag])
                for number in in_either_kind(time):
                    self.assert_water(rain(bag)(number), expected)

    def test_the_time_0(self):
        for bag in (BAGS[0], BAGS[1], FORTY):
            for zero in (0, Ratio(0), Ratio(0, 5)):
                made = rain(bag)(zero)
                self.assert_water(made, [])
                self.assertIs(made == Water(), True)

    def test_a_rain_without_drops(self):
        for time in (0, Ratio(1, 2), 1, 10 ** 9):
            self.assert_water(Rain()(time), [])

    def test_small_times(self):
        made = Rain([(0, 1), (0, 2), (1, 1), (1, 1), (1, 5), (2, 3)])
        self.assert_water(made(ratio(TINY)), [(0, 3 * TINY), (1, 7 * TINY), (2, 3 * TINY)])

    def test_times_at_which_neighbours_just_touch(self):
        for one, other, distance in product((1, 2, Fraction(2, 7)), (1, 5), (1, 3, Fraction(1, 9))):
            made = rain([(4, one), (4 + distance, other)])
            time = 2 * Fraction(distance) / (one + other)
            for shift, many in [(0, 1), (-TINY, 2), (TINY, 1)]:
                water = made(ratio(time + shift))
                self.assertEqual(len(water), many)
                pools = [(Fraction(4), one * (time + shift)), (Fraction(4 + distance), other * (time + shift))]
                self.assert_water(water, run_together(pools))

    def test_negative_times(self):
        for made in (Rain(), Rain([(0, 1)]), rain(FORTY)):
            for time in (-1, -(10 ** 9), Ratio(-1, 1000), ratio(-TINY)):
                self.assert_error(InvalidTime, {"time": time}, made, time)
                self.assert_error(InvalidTime, {"time": time}, made, time=time)

    def test_by_name(self):
        self.assert_water(Rain([(0, 2)])(time=Ratio(1, 2)), [(0, 1)])

    def test_the_example_of_the_document(self):
        a = Rain([(0, 2), (3, 2), (4, 1)])
        answers = [str(a.volume), str(a.middle), len(a(1)), len(a(2)), repr(a(2)[0])]
        self.assertEqual(answers, ["5", "2", 2, 1, "Pool(2, 10)"])


class Texts(RainCase):
    def test_reading(self):
        for text, expected in [
            ("", []), ("0 1", [(0, 1)]), ("-3 2", [(-3, 2)]), ("1/2 1/3", [(HALF, Fraction(1, 3))]),
            ("-7/3 10", [(Fraction(-7, 3), 10)]), ("0 1\n0 1", [(0, 1), (0, 1)]),
            ("5 1\n-5 2\n0 3", [(-5, 2), (0, 3), (5, 1)]),
            ("0 2\n0 1\n0 1/2", [(0, HALF), (0, 1), (0, 2)]), ("1000000000 1/1000", [(10 ** 9, Fraction(1, 1000))]),
        ]:
            self.assert_rain(Rain.read(text), expected)
            self.assert_rain(Rain.read(text=text), expected)
        self.assert_rain(Rain([(9, 9)]).read("1 2"), [(1, 2)])

    def test_reading_lines_in_every_order(self):
        lines = ["0 1", "0 2", "-1/2 3", "10 1/7"]
        for order in permutations(lines):
            self.assert_rain(Rain.read("\n".join(order)), [(0, 1), (0, 2), (-HALF, 3), (10, Fraction(1, 7))])

    def test_reading_up_to_40_lines(self):
        lines = [f"{spot} {volume}" for spot, volume in FORTY]
        for many in (1, 39, 40):
            self.assert_rain(Rain.read("\n".join(lines[:many])), FORTY[:many])
            self.assert_rain(Rain.read("\n".join(lines[:many][::-1])), FORTY[:many])

    def test_line_40(self):
        for more in (["0 1"], ["0 1", "0 1"], ["bad"], [""], ["0 0"], ["0 1"] * 20):
            self.assert_error(InvalidText, {"line": 40}, Rain.read, "\n".join(["0 1"] * 40 + more))
        for at in (0, 1, 20, 39):
            lines = ["0 1"] * 45
            lines[at] = "0  1"
            self.assert_error(InvalidText, {"line": at}, Rain.read, "\n".join(lines))

    def test_lines_of_another_form(self):
        for line in (
            " 0 1", "0 1 ", "0  1", "  0 1", "0 1  ", "0", "1", "0 ", " 1", " ", "  ", "0 1 2", "0,1", "0 1,",
            "(0 1)", "a b", "0 a", "a 1", "- 1", "0 -", "None None", "True 1", "0 True", "0 1#", "01", "0/1",
            "0 0", "0 -1", "0 -1/2", "5 -0", "-0 1", "00 1", "0 01", "0 1/1", "2/4 1", "0 2/4", "1/0 1", "0 1/0",
            "+1 1", "0 +1", "0 1.0", "0.5 1", "1e3 1", "0 1e3", "0x1 1", "1_0 1", "0 1_0", "1//2 1", "0 1//2",
            "1/2/3 1", "/2 1", "1/ 1", "0 /2", "0 0/2", "0/2 1", "--1 1", "0 --1", "1/-2 1", "0 1/-2", "1/02 1",
            "0 6/3",
        ):
            with self.subTest(line):
                for before, after in [
                    ([], []), (["0 1"], []), ([], ["0 1"]), (["3 1", "-2 1/2"], ["", "bad"]), (["1 1"] * 39, []),
                ]:
                    text = "\n".join([*before, line, *after])
                    self.assert_error(InvalidText, {"line": len(before)}, Rain.read, text)

    def test_empty_lines(self):
        for text, line in [
            ("\n", 0), ("\n0 1", 0), ("0 1\n", 1), ("0 1\n\n0 2", 1), ("0 1\n0 2\n", 2), ("\n\n", 0), ("0 1\n\n", 1),
            (" ", 0), ("0 1\n ", 1), ("0\n1", 0), ("0 1 0 2", 0),
        ]:
            with self.subTest(text):
                self.assert_error(InvalidText, {"line": line}, Rain.read, text)

    def test_the_error_is_a_pool_error_about_the_first_wrong_line(self):
        self.assertTrue(issubclass(InvalidText, PoolError))
        self.assert_error(InvalidText, {"line": 1}, Rain.read, "0 1\n0 0\nbad\n1 1")
        self.assert_error(InvalidText, {"line": 2}, Rain.read, "9 1\n-9 1\n0 -1\nbad")

    def test_writing(self):
        for drops, text in [
            ([], ""), ([(0, 1)], "0 1"), ([(3, 1), (-2, Ratio(1, 2))], "-2 1/2\n3 1"),
            ([(0, 2), (0, 1), (0, 1)], "0 1\n0 1\n0 2"),
            ([(Ratio(-7, 3), 10), (Ratio(-14, 4), 1)], "-7/2 1\n-7/3 10"),
        ]:
            self.assertEqual(str(Rain(drops)), text)
            self.assertEqual(f"{Rain(drops)}", text)

    def test_the_text_read_back(self):
        for bag in [*BAGS, FORTY, some_pairs(40, 11)]:
            made = rain(bag)
            self.assertEqual(str(made), "\n".join(f"{spot} {volume}" for spot, volume in sorted(bag)))
            self.assert_rain(Rain.read(str(made)), bag)
            self.assertIs(Rain.read(str(made)) == made, True)

    def test_repr(self):
        for bag in [*BAGS, FORTY]:
            self.assertEqual(repr(rain(bag)), f"Rain({len(bag)})")


class Lasting(RainCase):
    def test_operands_stay_as_they_are_and_answers_too(self):
        def answers(one, other):
            return [
                one.drops, one.volume, abs(one), one.middle, len(one), bool(one), one + other, other + one, one - one,
                (one + other) - other, one * 3, Ratio(1, 2) * one, one >> 2, one << Ratio(1, 2), -one, one == other,
                one != other, (0, 1) in one, (7, 1) in one, one(1), one(Ratio(1, 9)), one(0), str(one), repr(one),
                one + one, Rain.read(str(one)),
            ]

        first, second = Rain([(3, 2), (0, 1), (0, 1)]), Rain([(0, 1), (-5, Ratio(1, 3))])
        before = answers(first, second)
        for _ in range(3):
            self.assertEqual(answers(second, first)[6], before[6])
            self.assertEqual(answers(first, second), before)
            self.assertRaises(MissingDrop, lambda: first - second)
            self.assertRaises(InvalidTime, first, -1)
            self.assertRaises(InvalidDrop, Rain, [(0, 1), (0, 0)])
            self.assertRaises(InvalidText, Rain.read, "0 1\n\n")
        self.assert_rain(first, [(0, 1), (0, 1), (3, 2)])
        self.assert_rain(second, [(-5, Fraction(1, 3)), (0, 1)])


if __name__ == "__main__":
    unittest.main()
