import math
import unittest
from fractions import Fraction

from endless.chains import closest
from endless.errors import ByNought
from tests.samples import GREAT, SIGNED, FractionCase, either_sign, fraction_by, limbs_of, mixed, sums_row, whole_by

HALF = Fraction(1, 2)
SIZES = [Fraction(above, below) for above, below in [
    (1, 2), (1, 3), (2, 3), (3, 4), (5, 2), (43, 30), (355, 113), (415, 93), (1, 65535), (65535, 65536), (65537, 65536),
    (1, 40), (39, 40), (13, 21), (21, 34), (314159265358979, 10 ** 14), (mixed(3, 901), mixed(3, 902)),
]]
MANY = [
    Fraction(mixed(60, 903), mixed(50, 904)), Fraction(mixed(30, 905), mixed(70, 906)), Fraction(1, mixed(60, 907)),
    Fraction(65536 ** 40 - 1, 65536 ** 40 + 1), Fraction(*sums_row(600)[-2:]), Fraction(mixed(60, 908), 10 ** 250),
]
SOME = [Fraction(*pair) for pair in [(0, 1), (7, 1), (-7, 1), (1, 2), (-1, 2), (355, 113), (-355, 113), (1, 65536)]]


def best_of(fraction, others):
    """The nearest one; of two as near that of the lesser lower number, of two with the same the lesser one."""
    return min(others, key=lambda other: (abs(other - fraction), other.denominator, other))


def tried(fraction, most):
    others = []
    for below in range(1, most + 1):
        above = math.floor(fraction * below)
        others += [Fraction(above, below), Fraction(above + 1, below)]
    return best_of(fraction, others)


def by_chain(fraction, most):
    """The nearest one of all that stand in the chain or between two of its steps, as far as most lets them."""
    above, below = [0, 1], [1, 0]
    left = fraction
    others = []
    while True:
        number = math.floor(left)
        if below[-1] > 0:
            # Each step between the two comes nearer, so the last one that most lets by is enough.
            steps = min((most - below[-2]) // below[-1], number)
            others.append(Fraction(above[-2] + steps * above[-1], below[-2] + steps * below[-1]))
        above, below = [above[-1], number * above[-1] + above[-2]], [below[-1], number * below[-1] + below[-2]]
        if below[-1] > most:
            return best_of(fraction, others)
        others.append(Fraction(above[-1], below[-1]))
        if left == number:
            return fraction
        left = 1 / (left - number)


def neighbours(most):
    """All pairs of fractions from nought to one with lower numbers up to most that have no other one between them."""
    row = sorted({Fraction(above, below) for below in range(1, most + 1) for above in range(below + 1)})
    return list(zip(row, row[1:]))


class ClosestTest(FractionCase):
    def assert_closest(self, fraction, most, told):
        self.assert_fraction(closest(fraction_by(fraction), limbs_of(most)), told)

    def assert_as_tried(self, fraction, most):
        self.assert_closest(fraction, most, tried(fraction, most))

    def test_by_hand(self):
        rows = [
            ((355, 113), 1, (3, 1)), ((355, 113), 7, (22, 7)), ((355, 113), 56, (22, 7)), ((355, 113), 57, (179, 57)),
            ((355, 113), 112, (333, 106)), ((355, 113), 113, (355, 113)), ((355, 113), 10 ** 9, (355, 113)),
            ((-355, 113), 7, (-22, 7)), ((2, 3), 1, (1, 1)), ((2, 3), 2, (1, 2)), ((-2, 3), 2, (-1, 2)),
            ((1, 3), 1, (0, 1)), ((-1, 3), 1, (0, 1)), ((-2, 3), 1, (-1, 1)), ((7, 1), 1, (7, 1)), ((0, 1), 1, (0, 1)),
        ]
        for numbers, most, told in rows:
            with self.subTest(numbers=numbers, most=most):
                told = fraction_by(Fraction(*told))
                self.assertEqual(closest(fraction_by(Fraction(*numbers)), limbs_of(most)), told)

    def test_two_as_near_by_hand(self):
        # Lower numbers not alike, then alike, which they are of wholes alone.
        rows = [
            ((1, 4), 2, (0, 1)), ((1, 4), 3, (1, 3)), ((3, 4), 2, (1, 1)), ((-1, 4), 2, (0, 1)), ((-3, 4), 2, (-1, 1)),
            ((5, 12), 3, (1, 2)), ((-5, 12), 3, (-1, 2)), ((7, 12), 3, (1, 2)), ((21, 4), 2, (5, 1)),
            ((1, 2), 1, (0, 1)), ((-1, 2), 1, (-1, 1)), ((3, 2), 1, (1, 1)), ((-3, 2), 1, (-2, 1)), ((5, 2), 1, (2, 1)),
            ((131073, 2), 1, (65536, 1)), ((-131073, 2), 1, (-65537, 1)),
        ]
        for numbers, most, told in rows:
            with self.subTest(numbers=numbers, most=most):
                told = fraction_by(Fraction(*told))
                self.assertEqual(closest(fraction_by(Fraction(*numbers)), limbs_of(most)), told)

    def test_each_of_the_first_ones(self):
        for below in range(1, 24):
            for above in range(-2 * below, 2 * below + 1):
                for most in (1, 2, 3, 4, 5, 7, 10, 16, 22):
                    self.assert_as_tried(Fraction(above, below), most)

    def test_fractions_of_both_signs(self):
        for fraction in either_sign(SIZES):
            for most in [1, 2, 3, 4, 5, 6, 7, 8, 20, 39, 40, 41, 64, 100]:
                self.assert_as_tried(fraction, most)

    def test_just_the_lower_number_and_its_neighbours(self):
        for fraction in either_sign([size for size in SIZES if size.denominator < 200]):
            below = fraction.denominator
            for most in (below - 1, below, below + 1, 2 * below):
                self.assert_as_tried(fraction, most)
            self.assert_closest(fraction, below, fraction)

    def test_greater_ones_tell_the_fraction_itself(self):
        for fraction in either_sign(SIZES + MANY):
            below = fraction.denominator
            for most in (below, below + 1, 65536 * below, 65536 ** 150):
                self.assert_closest(fraction, most, fraction)

    def test_wholes(self):
        for number in SIGNED + either_sign(GREAT):
            for most in (1, 2, 65536, GREAT[0]):
                told = (whole_by(number), (1,))
                self.assertEqual(closest(told, limbs_of(most)), told)

    def test_by_one_alone(self):
        for fraction in either_sign(SIZES + MANY):
            self.assert_closest(fraction, 1, Fraction(math.ceil(fraction - HALF)))
        for number in (0, 1, 2, 7, 65535, mixed(5, 909)):
            for whole in (number, -number):
                self.assert_closest(whole + HALF, 1, Fraction(whole))

    def test_two_as_near_one_by_one(self):
        for most in range(1, 12):
            for one, other in neighbours(most):
                middle = (one + other) / 2
                for whole in (0, 1, -1, -3):
                    self.assert_closest(middle + whole, most, best_of(middle, [one, other]) + whole)
                    self.assert_as_tried(middle + whole, most)

    def test_just_beside_the_middle(self):
        for most in (1, 2, 3, 7, 11):
            for one, other in neighbours(most):
                for gap in (Fraction(1, 65536), Fraction(1, 65536 ** 3)):
                    self.assert_closest((one + other) / 2 - gap, most, one)
                    self.assert_closest((one + other) / 2 + gap, most, other)

    def test_a_natural_of_many_limbs(self):
        naturals = [65535, 65536, 65536 ** 2, mixed(5, 910), mixed(12, 911), mixed(20, 912)]
        for fraction in either_sign(MANY):
            below = fraction.denominator
            for most in naturals + [below // 2, below - 1]:
                if most < below:
                    told = by_chain(fraction, most)
                    self.assertEqual(told, fraction.limit_denominator(most))
                    self.assert_closest(fraction, most, told)

    def test_the_chain_in_the_tests_finds_what_trying_finds(self):
        for below in range(1, 20):
            for above in range(-below, below + 1):
                for most in range(1, 20):
                    fraction = Fraction(above, below)
                    self.assertEqual(by_chain(fraction, most), tried(fraction, most))

    def test_two_as_near_of_many_limbs(self):
        for fraction in (MANY[0], MANY[4], MANY[5]):
            one = fraction.limit_denominator(mixed(15, 913))
            below = one.denominator
            # The one beside it: its upper number times the other lower one, less the same crosswise, is one.
            other_below = pow(one.numerator, -1, below) + 3 * below
            other = Fraction((one.numerator * other_below - 1) // below, other_below)
            for sign in (1, -1):
                middle = sign * (one + other) / 2
                for most in (other_below, other_below + below - 1):
                    self.assert_closest(middle, most, sign * one)
                    self.assert_closest(middle - Fraction(sign, 65536 ** 90), most, sign * other)

    def test_long_before_the_chain_ends(self):
        # Of a chain this long the first few steps are enough.
        fraction = Fraction(mixed(1500, 914), mixed(1500, 915))
        self.assert_closest(fraction, 100, fraction.limit_denominator(100))

    def test_nought_is_refused(self):
        for fraction in either_sign(SIZES + MANY) + SOME:
            with self.assertRaises(ByNought):
                closest(fraction_by(fraction), ())
            with self.assertRaises(ByNought):
                closest(fraction_by(fraction), most=())
            self.assert_as_tried(fraction, 3)

    def test_by_name_and_asked_again(self):
        for fraction in SOME:
            for most in ((1,), (7,), (112,), (0, 1)):
                told = closest(fraction_by(fraction), most)
                self.assertEqual(closest(fraction=fraction_by(fraction), most=most), told)
                self.assert_told_alike(closest, fraction_by(fraction), most)


if __name__ == "__main__":
    unittest.main()
