import unittest

from endless.errors import ByNought, NoCount
from endless.roots import power_rest, root_of
from tests.samples import (
    BELOW, FULL, GREAT, LIMB_EDGES, NUMBERS, POWERS, SMALL, NaturalCase, around_powers, limbs_of, mixed,
)

FIRSTS = [0, 1, 2, 3, 7, 10, 32768, 65535, 65536, 65537, 65536 ** 3, 65536 ** 5 - 1, mixed(2, 201), mixed(9, 202)]
THIRDS = [
    1, 2, 3, 7, 10, 255, 32768, 65535, 65536, 65537, 65536 ** 2 - 1, 65536 ** 3, 65536 ** 4 + 1, mixed(3, 203),
    mixed(8, 204),
]
SMALL_COUNTS = [0, 1, 2, 3, 4, 5, 7, 8, 9, 15, 16, 17, 100, 255]
GREAT_COUNTS = around_powers([15, 16, 17, 31, 32, 48, 96, 160, 191]) + [
    65536 ** 3 + 1, 7 * 65536 ** 5 + 9 * 65536 ** 2, 65536 ** 4, 65536 ** 12 - 1, 65536 ** 11, mixed(12, 205),
    mixed(5, 206), 10 ** 30,
]
ROOT_COUNTS = [1, 2, 3, 5, 63, 64]
NO_ROOT_COUNTS = [0, 65, 66, 128, 1000, 65536, 10 ** 30] + BELOW
SOME = [(), (1,), (7,), (65535,), (0, 1), (5, 0, 6), (65535,) * 4]


class PowerRestTest(NaturalCase):
    def assert_rest(self, one, count, other):
        self.assert_natural(power_rest(limbs_of(one), limbs_of(count), limbs_of(other)), pow(one, count, other))

    def test_by_hand(self):
        rows = [
            ((2,), (10,), (1000,), (24,)), ((2,), (16,), (0, 0, 1), (0, 1)), ((3,), (4,), (5,), (1,)),
            ((7,), (), (10,), (1,)), ((), (), (10,), (1,)), ((), (), (1,), ()), ((7,), (), (1,), ()),
            ((), (3,), (10,), ()), ((), (0, 1), (10,), ()), ((7,), (1,), (10,), (7,)), ((17,), (1,), (10,), (7,)),
            ((7,), (1,), (7,), ()), ((10,), (2,), (1,), ()), ((5, 6), (1,), (0, 1), (5,)), ((0, 1), (0, 1), (2,), ()),
            ((65535,), (2,), (0, 1), (1,)), ((2,), (32,), (1, 1), (1,)),
        ]
        for natural, count, other, told in rows:
            with self.subTest(natural=natural, count=count, other=other):
                self.assertEqual(power_rest(natural, count, other), told)

    def test_small_counts(self):
        # Thirds less and greater than the firsts, of one limb and of several, either way about.
        for one in FIRSTS:
            for count in SMALL_COUNTS:
                for other in THIRDS:
                    self.assert_rest(one, count, other)

    def test_counts_of_many_limbs(self):
        for one in [0, 1, 2, 65535, 65537, mixed(4, 207)]:
            for count in GREAT_COUNTS:
                for other in [1, 2, 65535, 65536, 65536 ** 2 - 1, mixed(3, 208)]:
                    self.assert_rest(one, count, other)

    def test_counts_that_are_only_twos(self):
        # Two to a power of two: what the count's limbs 0 stand for shows in what is left.
        for place in (0, 1, 15, 16, 17, 33, 100):
            for more in (-1, 0, 1):
                self.assert_rest(2, 2 ** place + more, 65536 ** 7 - 159)
                self.assert_rest(3, 2 ** place + more, 10 ** 40)

    def test_to_the_power_nought_and_one(self):
        for one in NUMBERS + FULL:
            for other in [1, 2, 65535, 65536, mixed(3, 209), mixed(30, 210)]:
                self.assert_rest(one, 0, other)
                self.assert_rest(one, 1, other)

    def test_by_one_nought_is_left(self):
        for one in NUMBERS + FULL + GREAT[:2]:
            for count in (0, 1, 2, 3, 65535, 65536):
                self.assertEqual(power_rest(limbs_of(one), limbs_of(count), (1,)), ())

    def test_full_limbs(self):
        for one in FULL[:6]:
            for count in FULL[:3]:
                for other in FULL[:6]:
                    self.assert_rest(one, count, other)
                    self.assert_rest(one, count, other + 1)

    def test_many_limbs(self):
        self.assert_rest(mixed(150, 211), mixed(1, 212), mixed(60, 213))
        self.assert_rest(mixed(20, 214), mixed(12, 215), mixed(30, 216))
        self.assert_rest(mixed(2000, 217), 3, mixed(20, 218))
        self.assert_rest(mixed(20, 219), 3, mixed(2000, 220))
        self.assert_rest(2, 65536 ** 12 - 1, 65536 ** 20 - 1)

    def test_by_nought_is_refused(self):
        for natural in SOME + [limbs_of(GREAT[0])]:
            for count in [(), (1,), (2,), (0, 1), (65535,) * 12]:
                with self.subTest(count), self.assertRaises(ByNought):
                    power_rest(natural, count, ())
            self.assertEqual(power_rest(natural, (1,), (1,)), ())
            self.assertEqual(power_rest(natural, (), (7,)), (1,))

    def test_asked_again(self):
        for natural in SOME:
            for count in SOME:
                self.assert_told_alike(power_rest, natural, count, (9, 1))


class RootTest(NaturalCase):
    def assert_root(self, number, count):
        self.assert_told(root_of(limbs_of(number), count), number, count)

    def assert_told(self, told, number, count):
        self.assert_tuple(told, 2)
        root = 0
        for limb in reversed(told[0]):
            root = root * 65536 + limb
        self.assertTrue(root ** count <= number < (root + 1) ** count)
        self.assert_natural(told[0], root)
        self.assert_natural(told[1], number - root ** count)

    def test_by_hand(self):
        rows = [
            ((), 2, ((), ())), ((1,), 2, ((1,), ())), ((2,), 2, ((1,), (1,))), ((3,), 2, ((1,), (2,))),
            ((4,), 2, ((2,), ())), ((8,), 2, ((2,), (4,))), ((9,), 2, ((3,), ())), ((0, 1), 2, ((256,), ())),
            ((65535,), 2, ((255,), (510,))), ((0, 0, 1), 2, ((0, 1), ())), ((27,), 3, ((3,), ())),
            ((26,), 3, ((2,), (18,))), ((28,), 3, ((3,), (1,))), ((7, 8), 1, ((7, 8), ())), ((), 1, ((), ())),
            ((0, 0, 0, 0, 1), 64, ((2,), ())), ((65535,) * 4, 64, ((1,), (65534, 65535, 65535, 65535))),
            ((), 64, ((), ())), ((1,), 64, ((1,), ())), ((243,), 5, ((3,), ())),
        ]
        for natural, count, told in rows:
            with self.subTest(natural=natural, count=count):
                self.assertEqual(root_of(natural, count), told)

    def test_numbers(self):
        for number in NUMBERS + FULL:
            for count in ROOT_COUNTS:
                self.assert_root(number, count)

    def test_each_count(self):
        for count in range(1, 65):
            for number in SMALL + LIMB_EDGES + [mixed(8, 221), 65536 ** 8 - 1]:
                self.assert_root(number, count)

    def test_each_of_the_first_ones(self):
        for number in range(1100):
            for count in (2, 3, 4, 5):
                self.assert_root(number, count)

    def test_less_than_two_to_the_power_of_the_count(self):
        for count in ROOT_COUNTS:
            for number in {1, 2 ** (count - 1), 2 ** count - 1}:
                self.assertEqual(root_of(limbs_of(number), count), ((1,), limbs_of(number - 1)))
            self.assertEqual(root_of(limbs_of(2 ** count), count), ((2,), ()))
            self.assertEqual(root_of((), count), ((), ()))

    def test_powers_and_their_neighbours(self):
        for count in ROOT_COUNTS + [4, 7, 16, 33]:
            for root in [1, 2, 3, 10, 255, 256, 257, 65535, 65536, 65537, mixed(2, 222), 65536 ** 3 - 1, 2 ** 50]:
                for more in (-1, 0, 1):
                    self.assert_root(root ** count + more, count)

    def test_just_below_the_next_power(self):
        for count in ROOT_COUNTS:
            for root in [1, 2, 9, 65534, 65535, 65536, mixed(2, 223)]:
                told = root_of(limbs_of((root + 1) ** count - 1), count)
                self.assertEqual(told, (limbs_of(root), limbs_of((root + 1) ** count - 1 - root ** count)))

    def test_powers_of_two_and_their_neighbours(self):
        for number in POWERS + around_powers(range(1, 150)):
            for count in (2, 3, 5, 64):
                self.assert_root(number, count)

    def test_many_limbs(self):
        for number in [mixed(100, 224), 65536 ** 100 - 1, 65536 ** 99, mixed(333, 225), mixed(50, 226) ** 2 - 1]:
            for count in ROOT_COUNTS:
                self.assert_root(number, count)

    def test_up_to_two_thousand_limbs(self):
        self.assert_root(mixed(2000, 227), 2)
        self.assert_root(mixed(2000, 228), 64)
        self.assert_root(GREAT[-1], 1)

    def test_the_count_left_out_is_two(self):
        for number in NUMBERS + FULL:
            self.assert_told(root_of(limbs_of(number)), number, 2)

    def test_the_count_by_its_place_and_by_its_name(self):
        for natural in SOME:
            for count in ROOT_COUNTS:
                told = root_of(natural, count)
                self.assertEqual(root_of(natural, count=count), told)
                self.assertEqual(root_of(natural=natural, count=count), told)
            self.assertEqual(root_of(natural), root_of(natural, count=2))

    def test_other_counts_are_refused(self):
        for natural in SOME + [limbs_of(GREAT[0])]:
            for count in NO_ROOT_COUNTS:
                with self.subTest(count), self.assertRaises(NoCount):
                    root_of(natural, count)
                with self.subTest(count), self.assertRaises(NoCount):
                    root_of(natural, count=count)
            self.assertEqual(root_of(natural, 1), (natural, ()))

    def test_asked_again(self):
        for natural in SOME:
            for count in ROOT_COUNTS:
                self.assert_told_alike(root_of, natural, count)


if __name__ == "__main__":
    unittest.main()
