import math
import unittest
from fractions import Fraction

from endless.errors import ByNought
from endless.fractions import (
    frac_minus, frac_over, frac_plus, frac_power, frac_ranked, frac_times, fraction_of,
)
from tests.samples import FULL, GREAT, SIGNED, FractionCase, either_sign, fraction_by, mixed, whole_by

NOUGHT = ((0, ()), (1,))
ONE = ((1, (1,)), (1,))
NUMBERS = either_sign([
    0, 1, 2, 3, 4, 6, 9, 10, 12, 255, 256, 65534, 65535, 65536, 65537, 65536 ** 2 - 1, 65536 ** 2, 65536 ** 2 + 1,
    65536 ** 4 - 1, mixed(2, 701), mixed(3, 702), mixed(9, 703),
])
HALF = Fraction(1, 2)
# Wholes, lower numbers alike, with a common divisor and without one, with 1 above, and with many limbs.
SIZES = [Fraction(above, below) for above, below in [
    (0, 1), (1, 1), (2, 1), (65536, 1), (1, 2), (3, 2), (1, 3), (2, 3), (4, 3), (1, 4), (3, 4), (1, 6), (5, 6), (7, 12),
    (1, 65535), (65534, 65535), (65535, 65536), (65537, 65536), (1, 65536 ** 2), (65536 ** 2 - 1, 65536 ** 2 + 1),
    (mixed(2, 704), mixed(3, 705)), (mixed(7, 706), mixed(4, 707)), (65536 ** 5 - 1, 6), (1, mixed(6, 708)),
]]
FRACTIONS = either_sign(SIZES)
MANY = either_sign([
    Fraction(mixed(60, 709), mixed(50, 710)), Fraction(mixed(50, 711), mixed(50, 710)), Fraction(1, 2 ** 900),
    Fraction(65536 ** 40 - 1, 65536 ** 40 + 1), Fraction(mixed(70, 712)), Fraction(mixed(8, 713), mixed(60, 714)),
])
SOME = [Fraction(*pair) for pair in [(0, 1), (1, 1), (-1, 1), (3, 2), (-3, 2), (1, 3), (-65537, 65536), (7, 65535)]]


class FractionOfTest(FractionCase):
    def test_by_hand(self):
        rows = [
            (0, 1, NOUGHT), (0, -1, NOUGHT), (0, 7, NOUGHT), (0, -7, NOUGHT), (1, 1, ONE), (-1, -1, ONE),
            (1, -1, ((-1, (1,)), (1,))), (6, 4, ((1, (3,)), (2,))), (-6, 4, ((-1, (3,)), (2,))),
            (6, -4, ((-1, (3,)), (2,))), (-6, -4, ((1, (3,)), (2,))), (4, 6, ((1, (2,)), (3,))),
            (7, 7, ONE), (-7, 7, ((-1, (1,)), (1,))), (14, 7, ((1, (2,)), (1,))), (7, 14, ((1, (1,)), (2,))),
            (65536 ** 2, 65536, ((1, (0, 1)), (1,))), (65536, -65536 ** 2, ((-1, (1,)), (0, 1))),
        ]
        for above, below, told in rows:
            with self.subTest(above=above, below=below):
                self.assertEqual(fraction_of(whole_by(above), whole_by(below)), told)

    def assert_fraction_of(self, above, below):
        self.assert_fraction(fraction_of(whole_by(above), whole_by(below)), Fraction(above, below))

    def assert_all_signs(self, above, below):
        for sign in (1, -1):
            self.assert_fraction_of(sign * above, below)
            self.assert_fraction_of(sign * above, -below)

    def test_each_of_the_first_ones(self):
        for above in range(-30, 31):
            for below in range(1, 31):
                self.assert_fraction_of(above, below)
                self.assert_fraction_of(above, -below)

    def test_pairs_of_numbers(self):
        for above in NUMBERS:
            for below in NUMBERS:
                if below != 0:
                    self.assert_fraction_of(above, below)

    def test_with_a_common_divisor(self):
        for common in [2, 6, 65535, 65536, 65537, mixed(3, 715), 2 ** 200, 65536 ** 9 - 1]:
            for above, below in [(1, 1), (8, 9), (9, 8), (1, 65536), (mixed(2, 716), mixed(4, 717))]:
                self.assert_all_signs(above * common, below * common)

    def test_by_one_and_by_one_below_nought(self):
        for number in SIGNED + GREAT:
            self.assertEqual(fraction_of(whole_by(number), (1, (1,))), (whole_by(number), (1,)))
            self.assertEqual(fraction_of(whole_by(number), (-1, (1,))), (whole_by(-number), (1,)))

    def test_nought_above(self):
        for number in SIGNED + GREAT:
            if number != 0:
                self.assertEqual(fraction_of((0, ()), whole_by(number)), NOUGHT)

    def test_the_second_left_out_or_none(self):
        for number in SIGNED + GREAT:
            whole = whole_by(number)
            told = (whole, (1,))
            self.assert_fraction(fraction_of(whole), number)
            for again in (fraction_of(above=whole), fraction_of(whole, None), fraction_of(whole, below=None)):
                self.assertEqual(again, told)

    def test_by_name(self):
        for above, below in [(6, 4), (-6, 4), (0, 5), (65536, 2 ** 40)]:
            told = fraction_by(Fraction(above, below))
            self.assertEqual(fraction_of(whole_by(above), below=whole_by(below)), told)
            self.assertEqual(fraction_of(below=whole_by(below), above=whole_by(above)), told)

    def test_many_limbs(self):
        common = mixed(40, 718)
        self.assert_all_signs(mixed(100, 719), mixed(110, 720))
        self.assert_all_signs(mixed(80, 721) * common, mixed(70, 722) * common)
        self.assert_all_signs(mixed(300, 723), mixed(2, 724))
        self.assert_all_signs(mixed(1980, 725) * 65536 ** 20, 65536 ** 15)
        self.assert_all_signs(65536 ** 2000 - 1, 65536 ** 1500 - 1)

    def test_of_a_fractions_own_two_numbers(self):
        for fraction in FRACTIONS + MANY:
            told = fraction_by(fraction)
            self.assertEqual(fraction_of(told[0], (1, told[1])), told)

    def test_by_nought_is_refused(self):
        for number in SIGNED[::7] + [0, 1, -1, GREAT[0]]:
            with self.assertRaises(ByNought):
                fraction_of(whole_by(number), (0, ()))
            with self.assertRaises(ByNought):
                fraction_of(whole_by(number), below=(0, ()))
            self.assert_fraction_of(number, 7)

    def test_asked_again(self):
        for above in (0, 1, -1, 6, -65536, mixed(4, 726)):
            self.assert_told_alike(fraction_of, whole_by(above))
            self.assert_told_alike(fraction_of, whole_by(above), None)
            for below in (1, -1, 4, -65535):
                self.assert_told_alike(fraction_of, whole_by(above), whole_by(below))


class FourWaysToJoinTest(FractionCase):
    def assert_joined(self, one, other):
        first, second = fraction_by(one), fraction_by(other)
        self.assert_fraction(frac_plus(first, second), one + other)
        self.assert_fraction(frac_minus(first, second), one - other)
        self.assert_fraction(frac_times(first, second), one * other)
        if other != 0:
            self.assert_fraction(frac_over(first, second), one / other)

    def test_by_hand(self):
        half, third = ((1, (1,)), (2,)), ((1, (1,)), (3,))
        self.assertEqual(frac_plus(half, third), ((1, (5,)), (6,)))
        self.assertEqual(frac_minus(half, third), ((1, (1,)), (6,)))
        self.assertEqual(frac_minus(third, half), ((-1, (1,)), (6,)))
        self.assertEqual(frac_times(half, third), ((1, (1,)), (6,)))
        self.assertEqual(frac_over(half, third), ((1, (3,)), (2,)))
        self.assertEqual(frac_over(third, half), ((1, (2,)), (3,)))
        self.assertEqual(frac_plus(half, half), ONE)
        self.assertEqual(frac_minus(half, half), NOUGHT)
        self.assertEqual(frac_over(half, ((-1, (1,)), (2,))), ((-1, (1,)), (1,)))
        self.assertEqual(frac_over(NOUGHT, ((-1, (1,)), (2,))), NOUGHT)

    def test_each_of_the_first_ones(self):
        first = sorted({Fraction(above, below) for above in range(-5, 6) for below in range(1, 7)})
        for one in first:
            for other in first:
                self.assert_joined(one, other)

    def test_pairs(self):
        for one in FRACTIONS:
            for other in FRACTIONS:
                self.assert_joined(one, other)

    def test_beside_itself_and_beside_its_other_sign(self):
        for fraction in FRACTIONS + MANY:
            self.assert_joined(fraction, fraction)
            self.assert_joined(fraction, -fraction)
            self.assertEqual(frac_minus(fraction_by(fraction), fraction_by(fraction)), NOUGHT)
            self.assertEqual(frac_plus(fraction_by(fraction), fraction_by(-fraction)), NOUGHT)

    def test_nought_on_either_side(self):
        for fraction in FRACTIONS + MANY + [Fraction(GREAT[-1], 2)]:
            self.assert_joined(fraction, Fraction(0))
            self.assert_joined(Fraction(0), fraction)

    def test_sums_and_differences_that_are_wholes(self):
        for fraction in FRACTIONS + MANY:
            for number in (1, -3, 65536, mixed(3, 727)):
                self.assert_joined(fraction, number - fraction)
                self.assert_joined(fraction, number + fraction)

    def test_beside_its_flipped_one(self):
        for fraction in FRACTIONS + MANY:
            if fraction != 0:
                self.assert_joined(fraction, 1 / fraction)

    def test_lower_numbers_alike_with_a_common_divisor_and_without_one(self):
        common = mixed(3, 728)
        for below, other in [(common, common), (6 * common, 35 * common), (2 ** 60, 3 ** 40), (2 ** 80, 2 ** 40)]:
            for above in (1, -1, 5, 65535 ** 3, -mixed(9, 729)):
                for upper in (1, 7, -11, mixed(2, 730)):
                    self.assert_joined(Fraction(above, below), Fraction(upper, other))

    def test_many_limbs(self):
        for one in MANY:
            for other in MANY[::2]:
                self.assert_joined(one, other)

    def test_over_nought_is_refused(self):
        for fraction in FRACTIONS + MANY:
            with self.assertRaises(ByNought):
                frac_over(fraction_by(fraction), NOUGHT)
            self.assert_fraction(frac_over(fraction_by(fraction), ((-1, (2,)), (3,))), fraction * Fraction(-3, 2))

    def test_by_name_and_asked_again(self):
        for ask in (frac_plus, frac_minus, frac_times, frac_over, frac_ranked):
            for one in SOME:
                for other in SOME[1:]:
                    first, second = fraction_by(one), fraction_by(other)
                    self.assertEqual(ask(one=first, other=second), ask(first, second))
                    self.assert_told_alike(ask, first, second)


class RankedTest(FractionCase):
    def assert_ranked(self, one, other):
        rank = (one > other) - (one < other)
        self.assert_number(frac_ranked(fraction_by(one), fraction_by(other)), rank)
        self.assert_number(frac_ranked(fraction_by(other), fraction_by(one)), -rank)

    def test_by_hand(self):
        third = Fraction(1, 3)
        row = [Fraction(-3), Fraction(-1), -HALF, -third, Fraction(0), third, HALF, Fraction(1), Fraction(3)]
        for place, one in enumerate(row):
            for behind, other in enumerate(row):
                told = frac_ranked(fraction_by(one), fraction_by(other))
                self.assertEqual(told, (place > behind) - (place < behind))

    def test_pairs(self):
        for one in FRACTIONS + MANY:
            for other in FRACTIONS + MANY:
                self.assert_ranked(one, other)

    def test_close_neighbours(self):
        for fraction in FRACTIONS + MANY:
            for gap in (Fraction(1, 65536 ** 90), Fraction(1, 3), Fraction(1)):
                self.assert_ranked(fraction, fraction + gap)
                self.assert_ranked(fraction, fraction - gap)

    def test_many_limbs(self):
        number = mixed(300, 731)
        great = Fraction(number, number - 1)
        for other in (great, -great, Fraction(number - 1, number), Fraction(number + 1, number), Fraction(1)):
            self.assert_ranked(great, other)
        self.assert_ranked(Fraction(GREAT[-1], 2), Fraction(GREAT[-2], 3))


class PowerTest(FractionCase):
    def assert_power(self, fraction, count):
        self.assert_fraction(frac_power(fraction_by(fraction), count), Fraction(fraction) ** count)

    def test_by_hand(self):
        rows = [
            ((2, 3), 0, (1, 1)), ((2, 3), 1, (2, 3)), ((2, 3), 2, (4, 9)), ((2, 3), 3, (8, 27)), ((2, 3), -1, (3, 2)),
            ((2, 3), -2, (9, 4)), ((-2, 3), 2, (4, 9)), ((-2, 3), 3, (-8, 27)), ((-2, 3), -1, (-3, 2)),
            ((-2, 3), -2, (9, 4)), ((-2, 3), -3, (-27, 8)), ((1, 5), -1, (5, 1)), ((-1, 5), -1, (-5, 1)),
            ((5, 1), -1, (1, 5)), ((-5, 1), -3, (-1, 125)), ((1, 1), -7, (1, 1)), ((-1, 1), -7, (-1, 1)),
        ]
        for numbers, count, told in rows:
            with self.subTest(numbers=numbers, count=count):
                self.assertEqual(frac_power(fraction_by(Fraction(*numbers)), count), fraction_by(Fraction(*told)))

    def test_fractions_and_counts(self):
        for fraction in FRACTIONS:
            for count in (0, 1, 2, 3, 4, 5, 8, 15):
                self.assert_power(fraction, count)
                if fraction != 0:
                    self.assert_power(fraction, -count)

    def test_greater_counts(self):
        for fraction in either_sign([HALF, Fraction(1), Fraction(2), Fraction(3, 65535), Fraction(1, 10), Fraction(7)]):
            for count in (16, 31, 64, 99, 100, 257, 1000):
                self.assert_power(fraction, count)
                self.assert_power(fraction, -count)

    def test_to_the_power_nought_all_are_one(self):
        for fraction in FRACTIONS + MANY + [Fraction(GREAT[-1], 2)]:
            self.assertEqual(frac_power(fraction_by(fraction), 0), ONE)

    def test_nought(self):
        self.assertEqual(frac_power(NOUGHT, 0), ONE)
        for count in (1, 2, 3, 64, 65537, 10 ** 30):
            self.assertEqual(frac_power(NOUGHT, count), NOUGHT)

    def test_nought_to_a_power_below_nought_is_refused(self):
        for count in (-1, -2, -3, -64, -65537, -10 ** 30):
            with self.assertRaises(ByNought):
                frac_power(NOUGHT, count)
            self.assertEqual(frac_power(NOUGHT, -count), NOUGHT)
            self.assertEqual(frac_power(ONE, count), ONE)

    def test_many_limbs(self):
        for fraction in MANY:
            for count in (2, 3, -1, -2, -3):
                self.assert_power(fraction, count)
        self.assert_power(Fraction(GREAT[-1], 2), 1)
        self.assert_power(Fraction(-2, GREAT[-1]), -1)
        self.assert_power(Fraction(2, 65535), -1900)

    def test_of_full_limbs(self):
        for number in FULL[:4]:
            for count in (2, 3, -2, -3):
                self.assert_power(Fraction(number, 65536 ** 2), count)
                self.assert_power(Fraction(-1, number), count)

    def test_it_stays_in_lowest_terms(self):
        for fraction in SIZES:
            told = frac_power(fraction_by(fraction), 6)
            self.assertEqual(fraction_of(told[0], (1, told[1])), told)
            self.assertEqual(math.gcd(fraction.numerator ** 6, fraction.denominator ** 6), 1)

    def test_by_name_and_asked_again(self):
        for fraction in SOME[1:]:
            for count in (0, 1, 2, -1, -3):
                told = frac_power(fraction_by(fraction), count)
                self.assertEqual(frac_power(fraction=fraction_by(fraction), count=count), told)
                self.assert_told_alike(frac_power, fraction_by(fraction), count)


if __name__ == "__main__":
    unittest.main()
