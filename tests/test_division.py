import unittest

from endless.division import parted, parted_limb, steps_of
from endless.errors import ByNought
from tests.samples import FULL, GREAT, NUMBERS, NaturalCase, limbs_of, mixed

LIMBS = [1, 2, 3, 7, 10, 255, 256, 257, 32767, 32768, 32769, 65534, 65535]
# The two highest limbs of these tell little of the rest, so that a limb guessed by them is easily one too great.
STEEP = [
    65536 ** 2 + 65535, 65536 ** 2 + 65534, 2 * 65536 ** 2 - 1, 65536 ** 3 + 65536 ** 2 - 1,
    65536 ** 4 + 65536 ** 3 - 1,
    32768 * 65536 ** 2 + 65535, 32768 * 65536 ** 3 + 65536 ** 2 - 1, 32768 * 65536 ** 3, 65535 * 65536 ** 2 + 1,
    3 * 65536 ** 2 - 1, 65536 ** 6 + 65536 ** 4 - 1,
]
ZEROS = [limb * 65536 ** places for limb in (1, 2, 32768, 65535) for places in (1, 2, 3, 9)]
SECONDS = sorted(set([number for number in NUMBERS if number > 0] + FULL + STEEP + ZEROS))
FIRSTS = [(), (7,), (65535,), (0, 1), (1, 2, 3), (65535,) * 5, limbs_of(GREAT[0]), limbs_of(GREAT[-1])]
SOME_PAIRS = [((), (7,)), ((7,), (8,)), ((8,), (7,)), ((0, 1), (2,)), ((1, 2, 3), (4, 5)), ((65535,) * 9, (9, 0, 1))]


class DividedCase(NaturalCase):
    def assert_parted(self, one, other):
        told = parted(limbs_of(one), limbs_of(other))
        self.assert_tuple(told, 2)
        self.assert_natural(told[0], one // other)
        self.assert_natural(told[1], one % other)

    def assert_parted_limb(self, number, limb):
        told = parted_limb(limbs_of(number), limb)
        self.assert_tuple(told, 2)
        self.assert_natural(told[0], number // limb)
        self.assert_number(told[1], number % limb)

    def assert_steps(self, one, other):
        told = steps_of(limbs_of(one), limbs_of(other))
        self.assertIs(type(told), list)
        self.assertEqual(len(told), len(limbs_of(one)))
        left = 0
        for step, limb in zip(told, reversed(limbs_of(one))):
            dividend = left * 65536 + limb
            left = dividend % other
            self.assert_tuple(step, 2)
            self.assert_number(step[0], dividend // other)
            self.assert_natural(step[1], left)
        often = sum(step[0] * 65536 ** place for place, step in enumerate(reversed(told)))
        self.assertTrue(often == one // other)
        self.assertTrue(left == one % other)


class PartedLimbTest(DividedCase):
    def test_by_hand(self):
        rows = [
            ((), 1, ((), 0)), ((), 65535, ((), 0)), ((7,), 1, ((7,), 0)), ((7,), 2, ((3,), 1)), ((7,), 7, ((1,), 0)),
            ((7,), 8, ((), 7)), ((0, 1), 2, ((32768,), 0)), ((0, 1), 65535, ((1,), 1)), ((0, 1), 32768, ((2,), 0)),
            ((65535, 65535), 65535, ((1, 1), 0)), ((65534, 65535), 65535, ((0, 1), 65534)),
            ((0, 0, 1), 3, ((21845, 21845), 1)), ((1, 2, 3), 1, ((1, 2, 3), 0)),
        ]
        for natural, limb, told in rows:
            with self.subTest(natural=natural, limb=limb):
                self.assertEqual(parted_limb(natural, limb), told)

    def test_numbers(self):
        for number in NUMBERS + FULL + STEEP + ZEROS:
            for limb in LIMBS:
                self.assert_parted_limb(number, limb)

    def test_products_and_their_neighbours(self):
        for number in [1, 2, 65535, 65536, mixed(3, 91), 65536 ** 8 - 1, mixed(45, 92)]:
            for limb in LIMBS:
                for more in (-1, 0, 1):
                    self.assert_parted_limb(number * limb + more, limb)

    def test_great_ones(self):
        for number in GREAT:
            for limb in (1, 2, 10, 32768, 65535):
                self.assert_parted_limb(number, limb)

    def test_by_nought_is_refused(self):
        for natural in FIRSTS:
            with self.assertRaises(ByNought):
                parted_limb(natural, 0)
            self.assertEqual(parted_limb(natural, 1), (natural, 0))

    def test_asked_again(self):
        for natural in FIRSTS:
            self.assert_told_alike(parted_limb, natural, 10)


class PartedTest(DividedCase):
    def test_by_hand(self):
        rows = [
            ((), (1,), ((), ())), ((), (1, 2, 3), ((), ())), ((7,), (1,), ((7,), ())), ((7,), (2,), ((3,), (1,))),
            ((7,), (7,), ((1,), ())), ((7,), (8,), ((), (7,))), ((7,), (0, 1), ((), (7,))),
            ((0, 1), (65535,), ((1,), (1,))), ((1, 2, 3), (1, 2, 3), ((1,), ())), ((2, 2, 3), (1, 2, 3), ((1,), (1,))),
            ((0, 2, 3), (1, 2, 3), ((), (0, 2, 3))), ((0, 0, 1), (0, 1), ((0, 1), ())),
            ((0, 0, 1), (1, 1), ((65535,), (1,))), ((65535,) * 4, (65535,) * 2, ((1, 0, 1), ())),
            ((5, 6, 7), (0, 1), ((6, 7), (5,))), ((5, 6, 7), (0, 0, 1), ((7,), (5, 6))),
        ]
        for one, other, told in rows:
            with self.subTest(one=one, other=other):
                self.assertEqual(parted(one, other), told)

    def test_pairs(self):
        # Each pair is there either way about, so that the first one is the lesser one, too.
        for one in [0] + SECONDS:
            for other in SECONDS:
                self.assert_parted(one, other)

    def test_neighbours(self):
        for number in SECONDS:
            for more in (-1, 0, 1):
                self.assert_parted(number + more, number)

    def test_products_and_their_neighbours(self):
        for number in [1, 2, 32768, 65535, 65536, 65537, mixed(3, 93), 65536 ** 8 - 1, 65536 ** 8, mixed(9, 94)]:
            for other in SECONDS:
                for more in (-1, 0, 1):
                    self.assert_parted(number * other + more, other)

    def test_limbs_guessed_too_great(self):
        for other in STEEP + FULL:
            for often in (1, 2, 32767, 32768, 65534, 65535, 65536, 65536 ** 2 - 1, 65536 ** 3 - 1):
                for left in (0, 1, other // 2, other - 1):
                    self.assert_parted(other * often + left, other)

    def test_the_greatest_that_is_left(self):
        for other in SECONDS:
            for places in (1, 2, 5):
                self.assert_parted(other * 65536 ** places - 1, other)

    def test_second_ones_of_each_length(self):
        for length in (40, 41, 64, 90):
            for other in (1, 2, 3, 4, 7, 8, 20, 39, 40, 41, 89, 90):
                for seed in (95, 96, 97):
                    self.assert_parted(mixed(length, seed), mixed(other, seed + 10))

    def test_great_ones(self):
        for one in GREAT:
            for other in [1, 2, 65535, 65536, 65536 ** 2 + 65535, mixed(40, 98)]:
                self.assert_parted(one, other)
        for other in [mixed(900, 99), mixed(1999, 99), GREAT[0], GREAT[-1]]:
            self.assert_parted(mixed(2000, 100), other)
            self.assert_parted(other, mixed(2000, 100))

    def test_by_nought_is_refused(self):
        for natural in FIRSTS:
            with self.assertRaises(ByNought):
                parted(natural, ())
            self.assertEqual(parted(natural, (1,)), (natural, ()))

    def test_asked_again(self):
        for one, other in SOME_PAIRS:
            self.assert_told_alike(parted, one, other)


class StepsTest(DividedCase):
    def test_by_hand(self):
        rows = [
            ((), (1,), []), ((), (1, 2, 3), []), ((7,), (2,), [(3, (1,))]), ((7,), (8,), [(0, (7,))]),
            ((7,), (0, 1), [(0, (7,))]), ((0, 1), (2,), [(0, (1,)), (32768, ())]),
            ((5, 0, 7), (7,), [(1, ()), (0, ()), (0, (5,))]), ((5, 6, 7), (0, 1), [(0, (7,)), (7, (6,)), (6, (5,))]),
            ((0, 0, 1), (1, 1), [(0, (1,)), (0, (0, 1)), (65535, (1,))]),
            ((1, 2, 3), (1, 2, 3), [(0, (3,)), (0, (2, 3)), (1, ())]),
        ]
        for one, other, told in rows:
            with self.subTest(one=one, other=other):
                self.assertEqual(steps_of(one, other), told)

    def test_numbers(self):
        for one in NUMBERS[::3] + FULL + STEEP:
            for other in SECONDS[::2] + STEEP:
                self.assert_steps(one, other)

    def test_products_and_their_neighbours(self):
        for number in [1, 2, 32768, 65535, 65536, mixed(3, 93), 65536 ** 5 - 1]:
            for other in LIMBS + STEEP + FULL:
                for more in (-1, 0, 1):
                    self.assert_steps(number * other + more, other)

    def test_many_limbs(self):
        for other in [1, 7, 65535, 65536, mixed(2, 101), mixed(40, 102), mixed(149, 103), mixed(151, 104)]:
            self.assert_steps(mixed(150, 105), other)
        self.assert_steps(GREAT[-1], 65535)
        self.assert_steps(mixed(1500, 106), mixed(10, 107))

    def test_beside_parted(self):
        for one, other in SOME_PAIRS:
            with self.subTest(one=one, other=other):
                steps = steps_of(one, other)
                limbs = [step[0] for step in reversed(steps)]
                often, left = parted(one, other)
                self.assertEqual(tuple(limbs), often + (0,) * (len(limbs) - len(often)))
                self.assertEqual(steps[-1][1] if steps else (), left)

    def test_by_nought_is_refused(self):
        for natural in FIRSTS:
            with self.assertRaises(ByNought):
                steps_of(natural, ())
            self.assertEqual(steps_of(natural, (1,)), [(limb, ()) for limb in reversed(natural)])

    def test_a_list_changed_is_told_again_as_it_was(self):
        for one, other in SOME_PAIRS:
            with self.subTest(one=one, other=other):
                self.assert_own_list(lambda: steps_of(one, other))

    def test_asked_again(self):
        for one, other in SOME_PAIRS:
            self.assert_told_alike(steps_of, one, other)


if __name__ == "__main__":
    unittest.main()
