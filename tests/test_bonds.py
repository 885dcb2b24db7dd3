import math
import unittest

from endless.bonds import bonds_of
from endless.wholes import value_of
from tests.samples import FULL, GREAT, SIGNED, WholeCase, around_powers, either_sign, mixed, sums_row, whole_by

NOUGHT = (0, ())
SOME = [NOUGHT, (1, (1,)), (-1, (1,)), (1, (12,)), (-1, (18,)), (1, (65535, 1)), (-1, (0, 0, 7))]


class BondsTest(WholeCase):
    def assert_bonds(self, one, other):
        told = bonds_of(whole_by(one), whole_by(other))
        self.assert_tuple(told, 3)
        self.assert_whole(told[0], math.gcd(one, other))
        first, second = value_of(told[1]), value_of(told[2])
        # Which two they are is open, but not their form.
        self.assert_whole(told[1], first)
        self.assert_whole(told[2], second)
        self.assertTrue(first * one + second * other == math.gcd(one, other), "they come to another number")

    def assert_all_signs(self, one, other):
        for first, second in ((one, other), (other, one)):
            for sign in (1, -1):
                self.assert_bonds(sign * first, second)
                self.assert_bonds(sign * first, -second)

    def test_the_greatest_by_hand(self):
        rows = [
            (0, 0, 0), (0, 7, 7), (7, 0, 7), (0, -7, 7), (-7, 0, 7), (1, 1, 1), (-1, -1, 1), (12, 18, 6), (-12, 18, 6),
            (12, -18, 6), (-12, -18, 6), (7, 5, 1), (-6, 3, 3), (65536, -65536 ** 2, 65536),
        ]
        for one, other, greatest in rows:
            with self.subTest(one=one, other=other):
                self.assertEqual(bonds_of(whole_by(one), whole_by(other))[0], whole_by(greatest))

    def test_each_of_the_first_ones(self):
        for one in range(-40, 41):
            for other in range(-40, 41):
                self.assert_bonds(one, other)

    def test_numbers_of_both_signs(self):
        numbers = SIGNED[::5] + either_sign(FULL[:4])
        for one in numbers:
            for other in numbers:
                self.assert_bonds(one, other)

    def test_two_noughts(self):
        told = bonds_of(NOUGHT, NOUGHT)
        self.assertEqual(told[0], NOUGHT)
        self.assert_bonds(0, 0)

    def test_nought_and_another(self):
        for number in SIGNED + either_sign(GREAT):
            self.assert_bonds(number, 0)
            self.assert_bonds(0, number)

    def test_one_and_another(self):
        for number in SIGNED + GREAT[:2]:
            self.assert_all_signs(1, number)

    def test_both_alike_and_of_the_other_sign(self):
        for number in SIGNED + GREAT[:2]:
            self.assert_bonds(number, number)
            self.assert_bonds(number, -number)

    def test_neighbours(self):
        for number in [1, 2, 3, 255, 65535, 65536, 65536 ** 2, mixed(5, 501), mixed(60, 502)]:
            self.assert_all_signs(number, number + 1)
            self.assert_all_signs(number, number + 2)

    def test_one_that_divides_the_other(self):
        for number in [1, 2, 3, 65535, 65536, mixed(3, 503), mixed(20, 504), 65536 ** 30 - 1]:
            for often in [1, 2, 3, 65535, 65536, mixed(2, 505), mixed(25, 506)]:
                self.assert_all_signs(number * often, number)

    def test_nothing_in_common_but_one(self):
        pairs = [(2 ** 300, 3 ** 150), (65537, 65536 ** 5), (10 ** 50, 10 ** 50 + 1), (2 ** 127 - 1, 2 ** 89 - 1)]
        for one, other in pairs:
            self.assertEqual(math.gcd(one, other), 1)
            self.assert_all_signs(one, other)

    def test_both_times_a_third_one(self):
        for third in [2, 7, 65535, 65536, 65537, mixed(4, 507), 2 ** 500]:
            for one, other in [(8, 9), (65535, 65536), (mixed(3, 508), mixed(5, 509)), (2 ** 90, 3 ** 60)]:
                self.assert_all_signs(one * third, other * third)

    def test_neighbours_of_a_row_of_sums(self):
        for row in [sums_row(90), sums_row(200, 7 * 65536, 21 * 65536), sums_row(150, 3, 1), sums_row(1500)]:
            self.assert_all_signs(row[-1], row[-2])

    def test_powers_of_two_and_their_neighbours(self):
        numbers = around_powers([1, 2, 15, 16, 17, 32, 48, 160])
        for one in numbers:
            for other in numbers:
                self.assert_bonds(one, -other)

    def test_full_limbs(self):
        for one in FULL:
            for other in FULL + [65536, 65536 ** 5, mixed(6, 510)]:
                self.assert_all_signs(one, other)

    def test_many_limbs(self):
        third = mixed(30, 511)
        self.assert_all_signs(mixed(150, 512), mixed(140, 513))
        self.assert_all_signs(mixed(90, 514) * third, mixed(100, 515) * third)
        self.assert_all_signs(mixed(300, 516), mixed(4, 517))
        self.assert_all_signs(65536 ** 2000 - 1, 65536 ** 1500 - 1)

    def test_by_name(self):
        for one in SOME:
            for other in SOME:
                self.assertEqual(bonds_of(one=one, other=other), bonds_of(one, other))

    def test_asked_again(self):
        for one in SOME:
            for other in SOME:
                self.assert_told_alike(bonds_of, one, other)


if __name__ == "__main__":
    unittest.main()
