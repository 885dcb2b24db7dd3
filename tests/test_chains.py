import math
import unittest
from fractions import Fraction

from endless.chains import approaches, chain_of, unchained
from endless.errors import NoChain
from tests.samples import (
    FULL, GREAT, SIGNED, FractionCase, either_sign, fraction_by, limbs_of, mixed, sums_row, whole_by,
)

SIZES = [Fraction(above, below) for above, below in [
    (0, 1), (1, 1), (2, 1), (65536, 1), (1, 2), (1, 3), (2, 3), (3, 2), (5, 2), (43, 30), (355, 113), (415, 93),
    (1, 65535), (1, 65536), (65535, 65536), (65537, 65536), (65536 ** 2 - 1, 65536 ** 2 + 1), (1, 65536 ** 3),
    (65536 ** 3, 65535), (mixed(2, 801), mixed(3, 802)), (mixed(7, 803), mixed(4, 804)), (1, mixed(6, 805)),
    (65536 ** 5 - 1, 6), (314159265358979, 10 ** 14),
]]
LONG = [Fraction(row[-1], row[-2]) for row in [sums_row(60), sums_row(300), sums_row(800, 5, 3)]]
MANY = [
    Fraction(mixed(60, 806), mixed(50, 807)), Fraction(mixed(30, 808), mixed(70, 809)), Fraction(1, mixed(80, 810)),
    Fraction(65536 ** 40 - 1, 65536 ** 40 + 1), Fraction(mixed(200, 811), 7),
]
FRACTIONS = either_sign(SIZES + LONG + [1 / fraction for fraction in LONG])
SOME = [Fraction(*pair) for pair in [(0, 1), (3, 1), (-3, 1), (1, 2), (-1, 2), (43, 30), (-43, 30), (65537, 65536)]]
SOME_CHAINS = [[0], [-7], [3, 1], [0, 2], [-1, 1, 1], [5, 4, 3, 2], [65536, 65535, 65537], [-2, 1, 65536 ** 2, 1]]


def chain_by(fraction):
    numbers = [math.floor(fraction)]
    left = fraction - numbers[0]
    while left > 0:
        numbers.append(math.floor(1 / left))
        left = 1 / left - numbers[-1]
    return numbers


def unchained_by(numbers):
    fraction = Fraction(numbers[-1])
    for number in reversed(numbers[:-1]):
        fraction = number + 1 / fraction
    return fraction


def wholes_by(numbers):
    return [whole_by(number) for number in numbers]


class ChainOfTest(FractionCase):
    def assert_chain(self, fraction):
        told = chain_of(fraction_by(fraction))
        numbers = chain_by(fraction)
        self.assertIs(type(told), list)
        self.assertEqual(len(told), len(numbers))
        for whole, number in zip(told, numbers):
            self.assert_whole(whole, number)
        self.assertTrue(numbers[0] <= fraction < numbers[0] + 1)
        self.assertTrue(all(number >= 1 for number in numbers[1:]))
        self.assertTrue(len(numbers) == 1 or numbers[-1] >= 2)

    def test_by_hand(self):
        rows = [
            (0, 1, [0]), (3, 1, [3]), (-3, 1, [-3]), (1, 2, [0, 2]), (-1, 2, [-1, 2]), (3, 2, [1, 2]), (1, 7, [0, 7]),
            (-1, 7, [-1, 1, 6]), (-3, 2, [-2, 2]), (43, 30, [1, 2, 3, 4]), (-43, 30, [-2, 1, 1, 3, 4]),
            (2, 3, [0, 1, 2]), (-2, 3, [-1, 3]), (355, 113, [3, 7, 16]), (65536 ** 2 + 1, 65536, [65536, 65536]),
        ]
        for above, below, numbers in rows:
            with self.subTest(above=above, below=below):
                self.assertEqual(chain_of(fraction_by(Fraction(above, below))), wholes_by(numbers))

    def test_each_of_the_first_ones(self):
        for above in range(-40, 41):
            for below in range(1, 25):
                self.assert_chain(Fraction(above, below))

    def test_wholes(self):
        for number in SIGNED + either_sign(GREAT):
            self.assertEqual(chain_of((whole_by(number), (1,))), [whole_by(number)])

    def test_fractions_of_both_signs(self):
        for fraction in FRACTIONS:
            self.assert_chain(fraction)

    def test_one_above(self):
        for number in [number for number in SIGNED + GREAT if number > 1]:
            self.assertEqual(chain_of(((1, (1,)), limbs_of(number))), [(0, ()), whole_by(number)])

    def test_many_limbs(self):
        for fraction in either_sign(MANY):
            self.assert_chain(fraction)
        number = mixed(1990, 812) * 65536 ** 8 + 1
        self.assert_chain(Fraction(number, 65536 ** 8))
        self.assert_chain(Fraction(-number, 65536 ** 8))

    def test_a_list_changed_is_told_again_as_it_was(self):
        for fraction in SOME:
            self.assert_own_list(lambda: chain_of(fraction_by(fraction)))

    def test_by_name_and_asked_again(self):
        for fraction in SOME:
            self.assertEqual(chain_of(fraction=fraction_by(fraction)), wholes_by(chain_by(fraction)))
            self.assert_told_alike(chain_of, fraction_by(fraction))


class UnchainedTest(FractionCase):
    def assert_unchained(self, numbers):
        self.assert_fraction(unchained(wholes_by(numbers)), unchained_by(numbers))

    def test_by_hand(self):
        rows = [
            ([0], 0, 1), ([5], 5, 1), ([-5], -5, 1), ([0, 1], 1, 1), ([0, 2], 1, 2), ([-1, 1], 0, 1), ([-1, 2], -1, 2),
            ([1, 2, 3, 4], 43, 30), ([1, 2, 3, 3, 1], 43, 30), ([-2, 1, 1, 3, 4], -43, 30), ([0, 1, 1], 1, 2),
            ([2, 1, 1, 1], 8, 3), ([-1, 1, 1], -1, 2), ([3, 7, 16], 355, 113),
        ]
        for numbers, above, below in rows:
            with self.subTest(numbers=numbers):
                self.assertEqual(unchained(wholes_by(numbers)), (whole_by(above), limbs_of(below)))

    def test_one_whole(self):
        for number in SIGNED + either_sign(GREAT):
            self.assertEqual(unchained([whole_by(number)]), (whole_by(number), (1,)))

    def test_two_and_more_wholes(self):
        firsts = [0, 1, -1, 2, -2, 7, -65536, mixed(3, 813)]
        for first in firsts:
            for second in (1, 2, 3, 65535, 65536, mixed(2, 814)):
                self.assert_unchained([first, second])
                for third in (1, 2, 65537, 65536 ** 3 - 1):
                    self.assert_unchained([first, second, third])
                    self.assert_unchained([first, second, third, 1])
                    self.assert_unchained([first, second, 1, third])
                    self.assert_unchained([first, 1, second, third, second])

    def test_a_last_one_that_is_one(self):
        for fraction in FRACTIONS:
            numbers = chain_by(fraction)
            numbers = numbers[:-1] + [numbers[-1] - 1, 1]
            self.assert_fraction(unchained(wholes_by(numbers)), fraction)

    def test_of_chains(self):
        for fraction in FRACTIONS + either_sign(MANY):
            told = fraction_by(fraction)
            self.assertEqual(unchained(chain_of(told)), told)
            self.assertEqual(unchained(wholes_by(chain_by(fraction))), told)

    def test_long_lists(self):
        for first in (0, 1, -1, -65536):
            self.assert_unchained([first] + [1] * 1500)
            self.assert_unchained([first] + [65535] * 200)
            self.assert_unchained([first] + list(range(1, 150)))

    def test_wholes_of_many_limbs(self):
        great = [mixed(limbs, 815) for limbs in (30, 1, 50, 20, 2)]
        self.assert_unchained(great)
        self.assert_unchained([-great[0]] + great)
        self.assert_unchained([0] + great + [1])
        self.assert_unchained([1] + FULL)
        self.assert_unchained([0, GREAT[-1]])

    def test_no_wholes_are_refused(self):
        with self.assertRaises(NoChain):
            unchained([])
        self.assertEqual(unchained([(0, ())]), ((0, ()), (1,)))

    def test_nought_and_below_behind_the_first_are_refused(self):
        for numbers in ([3, 1], [0, 2], [-1, 1, 1], [5, 4, 3, 2], [-2] + [65536] * 6, [0] + [7] * 30):
            for place in range(1, len(numbers)):
                for number in (0, -1, -2, -65536, -mixed(4, 816)):
                    wrong = numbers[:place] + [number] + numbers[place + 1:]
                    with self.subTest(wrong=wrong), self.assertRaises(NoChain):
                        unchained(wholes_by(wrong))
                    with self.assertRaises(NoChain):
                        unchained(wholes_by(numbers[:place] + [number] * (len(numbers) - place)))
            self.assert_unchained(numbers)

    def test_nought_and_below_at_the_first_place_are_not(self):
        for number in (0, -1, -2, -65536, -mixed(4, 817)):
            self.assert_unchained([number])
            self.assert_unchained([number, 1])
            self.assert_unchained([number, 3, 5])

    def test_the_list_stays_as_it_was(self):
        for numbers in SOME_CHAINS:
            handed = wholes_by(numbers)
            unchained(handed)
            self.assertEqual(handed, wholes_by(numbers))
        for numbers in ([], [0, 0], [5, 4, -1, 2]):
            handed = wholes_by(numbers)
            with self.assertRaises(NoChain):
                unchained(handed)
            self.assertEqual(handed, wholes_by(numbers))

    def test_a_list_changed_since_is_asked_anew(self):
        handed = wholes_by([1, 2])
        self.assert_fraction(unchained(handed), Fraction(3, 2))
        handed.append((1, (3,)))
        self.assert_fraction(unchained(handed), Fraction(10, 7))

    def test_by_name_and_asked_again(self):
        for numbers in SOME_CHAINS:
            self.assert_fraction(unchained(wholes=wholes_by(numbers)), unchained_by(numbers))
            self.assert_told_alike(unchained, wholes_by(numbers))


class ApproachesTest(FractionCase):
    def assert_approaches(self, fraction):
        told = approaches(fraction_by(fraction))
        numbers = chain_by(fraction)
        self.assertIs(type(told), list)
        self.assertEqual(len(told), len(numbers))
        # Each one by the two ahead of it, so that long chains are not gone through again and again.
        above, below = [0, 1], [1, 0]
        for place, number in enumerate(numbers):
            above.append(number * above[-1] + above[-2])
            below.append(number * below[-1] + below[-2])
            self.assert_fraction(told[place], Fraction(above[-1], below[-1]))
        self.assert_fraction(told[-1], fraction)

    def test_by_hand(self):
        rows = [
            (0, 1, [(0, 1)]), (-3, 1, [(-3, 1)]), (1, 2, [(0, 1), (1, 2)]), (-1, 2, [(-1, 1), (-1, 2)]),
            (2, 3, [(0, 1), (1, 1), (2, 3)]), (43, 30, [(1, 1), (3, 2), (10, 7), (43, 30)]),
            (-43, 30, [(-2, 1), (-1, 1), (-3, 2), (-10, 7), (-43, 30)]), (355, 113, [(3, 1), (22, 7), (355, 113)]),
            (-1, 7, [(-1, 1), (0, 1), (-1, 7)]),
        ]
        for above, below, told in rows:
            with self.subTest(above=above, below=below):
                fractions = [fraction_by(Fraction(*numbers)) for numbers in told]
                self.assertEqual(approaches(fraction_by(Fraction(above, below))), fractions)

    def test_each_is_that_of_so_many_wholes(self):
        for fraction in either_sign(SIZES + LONG[:1]):
            told = approaches(fraction_by(fraction))
            wholes = chain_of(fraction_by(fraction))
            numbers = chain_by(fraction)
            self.assertEqual(len(told), len(wholes))
            for place in range(len(wholes)):
                self.assertEqual(told[place], unchained(wholes[:place + 1]))
                self.assert_fraction(told[place], unchained_by(numbers[:place + 1]))

    def test_each_of_the_first_ones(self):
        for above in range(-40, 41):
            for below in range(1, 25):
                self.assert_approaches(Fraction(above, below))

    def test_fractions_of_both_signs(self):
        for fraction in FRACTIONS:
            self.assert_approaches(fraction)

    def test_wholes(self):
        for number in SIGNED + either_sign(GREAT):
            self.assertEqual(approaches((whole_by(number), (1,))), [(whole_by(number), (1,))])

    def test_many_limbs(self):
        for fraction in either_sign(MANY):
            self.assert_approaches(fraction)

    def test_a_list_changed_is_told_again_as_it_was(self):
        for fraction in SOME:
            self.assert_own_list(lambda: approaches(fraction_by(fraction)))

    def test_by_name_and_asked_again(self):
        for fraction in SOME:
            told = approaches(fraction_by(fraction))
            self.assertEqual(approaches(fraction=fraction_by(fraction)), told)
            self.assert_told_alike(approaches, fraction_by(fraction))


if __name__ == "__main__":
    unittest.main()
