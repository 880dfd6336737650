"""Points [8], [9] and [10]: exact ratios. Python's own fractions are the measure."""

import operator
import unittest
from fractions import Fraction
from math import gcd

from poolsmeet.errors import InvalidNumber
from poolsmeet.ratios import Ratio

BIG = 10 ** 2000
FRACTIONS = sorted({Fraction(top, bottom) for top in range(-5, 6) for bottom in range(1, 5)}) + [
    Fraction(10 ** 9), Fraction(-(10 ** 9), 1000 - 1), Fraction(3 ** 70, 2 ** 90), Fraction(-(BIG + 1), BIG),
]
NO_NUMBERS = [True, False, None, "", "1", "1/2", (), (1, 2), [1], {}, 1.0, 0.5, b"1", 1j,
              Fraction(1, 2), object(), int, Ratio]
COMPARISONS = [operator.eq, operator.ne, operator.lt, operator.le, operator.gt, operator.ge]


def ratio(fraction):
    return Ratio(fraction.numerator, fraction.denominator)


def parts(value):
    return value.top, value.bottom


def both(fraction):
    return fraction.numerator, fraction.denominator


def with_integers(fraction):
    """The ratio of a fraction, and also its integer if it is whole."""
    if fraction.denominator == 1:
        return [ratio(fraction), fraction.numerator]
    return [ratio(fraction)]


class RatioCase(unittest.TestCase):
    def assert_ratio(self, value, fraction):
        self.assertIs(type(value), Ratio)
        self.assertIs(type(value.top), int)
        self.assertIs(type(value.bottom), int)
        self.assertEqual(parts(value), both(fraction))

    def assert_invalid(self, expected, call, *arguments):
        with self.assertRaises(InvalidNumber) as caught:
            call(*arguments)
        self.assertIs(type(caught.exception), InvalidNumber)
        self.assertIs(type(caught.exception.value), type(expected))
        self.assertTrue(caught.exception.value is expected or caught.exception.value == expected)


class Construction(RatioCase):
    def test_lowest_terms_and_a_positive_bottom(self):
        for top in range(-13, 14):
            for bottom in [*range(-13, 0), *range(1, 14)]:
                with self.subTest(top=top, bottom=bottom):
                    self.assert_ratio(Ratio(top, bottom), Fraction(top, bottom))

    def test_single_cases(self):
        for top, bottom, expected in [
            (6, -4, (-3, 2)), (-6, -4, (3, 2)), (-6, 4, (-3, 2)), (6, 4, (3, 2)), (0, 5, (0, 1)), (0, -5, (0, 1)),
            (7, 7, (1, 1)), (7, -7, (-1, 1)), (1, -1, (-1, 1)),
        ]:
            with self.subTest(top=top, bottom=bottom):
                self.assertEqual(parts(Ratio(top, bottom)), expected)

    def test_integers_of_any_size(self):
        one, other = 3 ** 9000 * 10, 7 ** 5000 * 6
        shared = gcd(one, other)
        self.assertEqual(parts(Ratio(one, other)), (one // shared, other // shared))
        self.assertEqual(parts(Ratio(one, -other)), (-one // shared, other // shared))
        self.assertEqual(parts(Ratio(-one, -other)), (one // shared, other // shared))
        self.assertEqual(parts(Ratio(one * other, one)), (other, 1))
        self.assertEqual(parts(Ratio(2 ** 64 + 1, 2 ** 64)), (2 ** 64 + 1, 2 ** 64))

    def test_one_argument(self):
        for top in (-7, 0, 7, BIG):
            self.assertEqual(parts(Ratio(top)), (top, 1))

    def test_arguments_by_name(self):
        self.assertEqual(parts(Ratio(top=6, bottom=-4)), (-3, 2))
        self.assertEqual(parts(Ratio(bottom=-4, top=6)), (-3, 2))
        self.assertEqual(parts(Ratio(6, bottom=4)), (3, 2))
        self.assertEqual(parts(Ratio(top=5)), (5, 1))

    def test_the_bottom_0(self):
        for top in (0, 1, -1, BIG):
            self.assert_invalid(0, Ratio, top, 0)


class Of(RatioCase):
    def test_an_integer(self):
        for value in (0, 1, -1, 5, -12, BIG, -BIG):
            self.assert_ratio(Ratio.of(value), Fraction(value))

    def test_a_ratio(self):
        for fraction in FRACTIONS:
            self.assert_ratio(Ratio.of(ratio(fraction)), fraction)

    def test_by_name_and_off_an_object(self):
        self.assert_ratio(Ratio.of(value=3), Fraction(3))
        self.assert_ratio(Ratio(1, 2).of(4), Fraction(4))

    def test_any_other_value(self):
        for value in NO_NUMBERS:
            with self.subTest(value=value):
                self.assert_invalid(value, Ratio.of, value)


class Read(RatioCase):
    def test_integers(self):
        for text in ("0", "1", "-1", "9", "10", "-10", "100", "1234567890", "-9876543210"):
            with self.subTest(text):
                self.assert_ratio(Ratio.read(text), Fraction(int(text)))

    def test_ratios(self):
        for text in ("1/2", "-1/2", "3/2", "-3/2", "10/3", "7/10", "-101/100", "1/1000", "2/9"):
            with self.subTest(text):
                self.assert_ratio(Ratio.read(text), Fraction(text))

    def test_by_name(self):
        self.assert_ratio(Ratio.read(text="-3/4"), Fraction(-3, 4))

    def test_groups_of_1000_digits(self):
        nines, eight = "9" * 1000, "9" * 999 + "8"
        self.assert_ratio(Ratio.read(nines), Fraction(10 ** 1000 - 1))
        self.assert_ratio(Ratio.read("-" + nines), Fraction(1 - 10 ** 1000))
        self.assert_ratio(Ratio.read("1/" + nines), Fraction(1, 10 ** 1000 - 1))
        self.assert_ratio(Ratio.read(nines + "/2"), Fraction(10 ** 1000 - 1, 2))
        self.assert_ratio(Ratio.read("-" + eight + "/" + nines), Fraction(2 - 10 ** 1000, 10 ** 1000 - 1))

    def test_reads_what_str_writes(self):
        for fraction in FRACTIONS:
            if max(map(abs, both(fraction))) < 10 ** 1000:
                self.assert_ratio(Ratio.read(str(ratio(fraction))), fraction)

    def test_other_texts(self):
        one, nines = "1" + "0" * 1000, "9" * 1001
        for text in (
            "", "-", "--1", "-0", "00", "01", "-01", "007", "+1", "+0",
            "1/1", "-1/1", "2/4", "-2/4", "6/3", "0/1", "0/2", "-0/1", "-0/2", "1/0", "0/0", "1/02", "01/2",
            "1/", "-1/", "/2", "-/2", "/", "-/", "1//2", "1/2/3", "1/2/", "1/-2", "-1/-2", "1/+2",
            " ", " 1", "1 ", "1 /2", "1/ 2", "1/2 ", "- 1", "1 2", "\t1", "1\t",
            "\n", "1\n", "\n1", "1/2\n", "1\n/2", "-1\n", "1\r", "1\x00", "\x001",
            one, nines, "-" + nines, "1/" + nines, nines + "/2", "0" * 1001,
            "a", "1a", "1/b", "x/2", "0x1", "1e3", "1.0", "1.", ".5", "1,5", "1_0", "1_000/7", "1/1_1",
            "None", "inf", "nan", "Ratio(1, 2)", "(1)",
            "\u00b2", "1\u00b2", "\u0663", "1/\u0663", "\u0661/2", "\uff11", "-\uff11", "\u22121", "1\u20442",
            "\u00bd", "\u4e09", "\ud800", "1\u00a0", "\u200b1",
        ):
            with self.subTest(text[:20], size=len(text)):
                self.assert_invalid(text, Ratio.read, text)


class Arithmetic(RatioCase):
    def test_sums_differences_and_products(self):
        for sign in (operator.add, operator.sub, operator.mul):
            for one in FRACTIONS:
                for other in FRACTIONS:
                    for left in with_integers(one):
                        for right in with_integers(other):
                            if isinstance(left, Ratio) or isinstance(right, Ratio):
                                self.assert_ratio(sign(left, right), sign(one, other))

    def test_floor_division_remainder_and_quotient(self):
        for one in FRACTIONS:
            for other in FRACTIONS:
                for right in with_integers(other):
                    if other:
                        left = ratio(one)
                        self.assertIs(type(left // right), int)
                        self.assertEqual(left // right, one // other)
                        self.assert_ratio(left % right, one - other * (one // other))
                        self.assert_ratio(left.over(right), one / other)

    def test_floor_division_of_negative_numbers(self):
        self.assertEqual(Ratio(-7, 2) // 1, -4)
        self.assertEqual(Ratio(7, 2) // -1, -4)
        self.assertEqual(Ratio(-7, 2) // Ratio(-1, 2), 7)
        self.assert_ratio(Ratio(-7, 2) % 3, Fraction(5, 2))
        self.assert_ratio(Ratio(7, 2) % -3, Fraction(-5, 2))
        self.assert_ratio(Ratio(-7, 2) % Ratio(-3, 2), Fraction(-1, 2))
        self.assert_ratio(Ratio(4) % 2, Fraction(0))

    def test_over_by_name(self):
        self.assert_ratio(Ratio(3).over(other=-6), Fraction(-1, 2))

    def test_a_second_number_0(self):
        for value in (Ratio(0), Ratio(1), Ratio(-5, 3), Ratio(BIG)):
            for zero in (0, Ratio(0), Ratio(0, -7)):
                for call in (operator.floordiv, operator.mod, Ratio.over):
                    with self.assertRaises(InvalidNumber) as caught:
                        call(value, zero)
                    self.assertEqual(caught.exception.value, 0)

    def test_signs(self):
        for fraction in FRACTIONS:
            self.assert_ratio(-ratio(fraction), -fraction)
            self.assert_ratio(abs(ratio(fraction)), abs(fraction))

    def test_other_kinds_may_do_their_own_sum(self):
        class Rainy:
            def __rmul__(self, other):
                return ("times", other)

        value = Ratio(5, 2)
        self.assertEqual(value * Rainy(), ("times", value))

    def test_assignments_make_new_ratios(self):
        first = total = Ratio(1, 2)
        total += 1
        total *= Ratio(3)
        total -= Ratio(1, 2)
        self.assert_ratio(total, Fraction(4))
        self.assert_ratio(first, Fraction(1, 2))

    def test_operands_stay_as_they_are(self):
        def calls(a, b):
            return [
                a + b, a - b, a * b, b + a, b - a, b * a, a // b, a % b, a.over(b), -a, abs(a), bool(a),
                a == b, a != b, a < b, a <= b, a > b, a >= b, b == a, b < a, b >= a,
                a.floor, a.is_whole, str(a), repr(a), Ratio.of(a), Ratio.of(b),
            ]

        for other in (Ratio(6, -4), 5):
            value = Ratio(-9, 6)
            before = parts(value), parts(Ratio.of(other))
            first = calls(value, other)
            self.assertEqual((parts(value), parts(Ratio.of(other))), before)
            self.assertEqual(calls(value, other), first)


class Comparison(RatioCase):
    def test_numbers_on_either_side(self):
        for one in FRACTIONS:
            for other in FRACTIONS:
                for left in with_integers(one):
                    for right in with_integers(other):
                        for compare in COMPARISONS:
                            if isinstance(left, Ratio) or isinstance(right, Ratio):
                                self.assertIs(compare(left, right), compare(one, other))

    def test_close_large_numbers(self):
        low, high = Ratio(BIG, BIG + 1), Ratio(BIG + 1, BIG + 2)
        self.assertEqual([sign(low, high) for sign in COMPARISONS], [False, True, True, True, False, False])
        self.assertEqual([sign(high, low) for sign in COMPARISONS], [False, True, False, False, True, True])

    def test_equal_ratios_that_were_written_differently(self):
        self.assertIs(Ratio(2, 4) == Ratio(-1, -2), True)
        self.assertIs(Ratio(2, 4) != Ratio(-1, -2), False)
        self.assertIs(Ratio(8, 4) == 2, True)
        self.assertIs(2 != Ratio(8, 4), False)

    def test_values_of_other_kinds(self):
        for value in (Ratio(0), Ratio(1), Ratio(1, 2)):
            for other in NO_NUMBERS:
                with self.subTest(value=value, other=other):
                    self.assertIs(value == other, False)
                    self.assertIs(other == value, False)
                    self.assertIs(value != other, True)
                    self.assertIs(other != value, True)

    def test_another_kind_that_equals_everything(self):
        class Anything:
            def __eq__(self, other):
                return True

        self.assertIs(Ratio(1) == Anything(), False)
        self.assertIs(Ratio(1) != Anything(), True)


class Reading(RatioCase):
    def test_truth(self):
        for fraction in FRACTIONS:
            self.assertIs(bool(ratio(fraction)), fraction != 0)
        self.assertIs(bool(Ratio(0, -9)), False)

    def test_is_whole(self):
        for fraction in FRACTIONS:
            self.assertIs(ratio(fraction).is_whole, fraction.denominator == 1)
        self.assertIs(Ratio(6, 3).is_whole, True)

    def test_floor(self):
        for fraction in FRACTIONS:
            self.assertIs(type(ratio(fraction).floor), int)
            self.assertEqual(ratio(fraction).floor, fraction.numerator // fraction.denominator)
        self.assertEqual([Ratio(-3, 2).floor, Ratio(-1, 3).floor, Ratio(1, 3).floor, Ratio(-2).floor], [-2, -1, 0, -2])

    def test_str(self):
        for value, text in [
            (Ratio(0), "0"), (Ratio(-4, 2), "-2"), (Ratio(6, -4), "-3/2"),
            (Ratio(1, 1000), "1/1000"), (Ratio(12), "12"),
            (Ratio(10 ** 999, 10 ** 1000 - 1), "1" + "0" * 999 + "/" + "9" * 1000),
        ]:
            self.assertEqual(str(value), text)
            self.assertEqual(f"{value}", text)

    def test_repr(self):
        for value, text in [
            (Ratio(0, 5), "Ratio(0, 1)"), (Ratio(-4, 2), "Ratio(-2, 1)"),
            (Ratio(6, -4), "Ratio(-3, 2)"), (Ratio(12), "Ratio(12, 1)"),
        ]:
            self.assertEqual(repr(value), text)

    def test_the_example_of_the_document(self):
        a = Ratio(6, -4)
        self.assertEqual([a.top, a.bottom, str(a), a // 1, str(a % 1), a.floor], [-3, 2, "-3/2", -2, "1/2", -2])


if __name__ == "__main__":
    unittest.main()
