import unittest

from endless.errors import NoCount
from endless.products import power_of, rows_of, squared, times, times_limb
from endless.sums import total_of
from tests.samples import BELOW, FULL, GREAT, NUMBERS, PAIRS, NaturalCase, limbs_of, mixed

LIMBS = [0, 1, 2, 3, 7, 255, 256, 257, 32767, 32768, 32769, 65534, 65535]
SOME_PAIRS = [((), ()), ((), (7,)), ((7,), ()), ((65535, 65535), (65535,)), ((5, 0, 6), (0, 9)), ((1, 2, 3), (4, 5, 6))]


class TimesLimbTest(NaturalCase):
    def test_by_hand(self):
        rows = [
            ((), 0, ()), ((), 1, ()), ((), 65535, ()), ((7,), 0, ()), ((7,), 1, (7,)), ((7,), 3, (21,)),
            ((2,), 32768, (0, 1)), ((3,), 32768, (32768, 1)), ((65535,), 32768, (32768, 32767)),
            ((65535,), 65535, (1, 65534)), ((65535, 65535), 65535, (1, 65535, 65534)),
            ((0, 0, 1), 65535, (0, 0, 65535)), ((0, 32768), 2, (0, 0, 1)), ((1, 2, 3), 0, ()),
        ]
        for natural, limb, product in rows:
            with self.subTest(natural=natural, limb=limb):
                self.assertEqual(times_limb(natural, limb), product)

    def test_numbers(self):
        for number in NUMBERS + FULL:
            for limb in LIMBS:
                self.assert_natural(times_limb(limbs_of(number), limb), number * limb)

    def test_many_limbs(self):
        for number in GREAT[:4] + [mixed(1001, 41), mixed(1999, 42), 65536 ** 1999 - 1]:
            for limb in (0, 1, 2, 32768, 65535):
                self.assert_natural(times_limb(limbs_of(number), limb), number * limb)

    def test_asked_again(self):
        for natural in [(), (7,), (65535, 65535), (1, 0, 3)]:
            for limb in (0, 1, 65535):
                self.assert_told_alike(times_limb, natural, limb)


class TimesTest(NaturalCase):
    def test_by_hand(self):
        rows = [
            ((), (), ()), ((), (7,), ()), ((7,), (), ()), ((1,), (7, 8), (7, 8)), ((7, 8), (1,), (7, 8)),
            ((6,), (7,), (42,)), ((256,), (256,), (0, 1)), ((65535,), (65535,), (1, 65534)),
            ((65535, 65535), (65535, 65535), (1, 0, 65534, 65535)), ((0, 1), (0, 0, 1), (0, 0, 0, 1)),
            ((1, 2, 3), (4, 5), (4, 13, 22, 15)), ((4, 5), (1, 2, 3), (4, 13, 22, 15)),
        ]
        for one, other, product in rows:
            with self.subTest(one=one, other=other):
                self.assertEqual(times(one, other), product)

    def test_pairs(self):
        # Each pair is there either way about; powers of two and their neighbours are among them.
        for one, other in PAIRS:
            self.assert_natural(times(limbs_of(one), limbs_of(other)), one * other)

    def test_limbs_all_full(self):
        for one in FULL:
            for other in FULL:
                self.assert_natural(times(limbs_of(one), limbs_of(other)), one * other)

    def test_unlike_lengths_either_way_about(self):
        for one, other in [(mixed(1500, 43), mixed(3, 44)), (mixed(1, 45), mixed(1999, 46)), (mixed(90, 47), 65535)]:
            self.assert_natural(times(limbs_of(one), limbs_of(other)), one * other)
            self.assert_natural(times(limbs_of(other), limbs_of(one)), one * other)

    def test_up_to_two_thousand_limbs(self):
        for one, other in [(mixed(1000, 48), mixed(1000, 49)), (65536 ** 1000 - 1, 65536 ** 1000 - 1)]:
            self.assert_natural(times(limbs_of(one), limbs_of(other)), one * other)

    def test_great_ones_by_nought_and_one(self):
        for number in GREAT:
            self.assertEqual(times(limbs_of(number), ()), ())
            self.assertEqual(times((), limbs_of(number)), ())
            self.assertEqual(times(limbs_of(number), (1,)), limbs_of(number))
            self.assertEqual(times((1,), limbs_of(number)), limbs_of(number))

    def test_asked_again(self):
        for one, other in SOME_PAIRS:
            self.assert_told_alike(times, one, other)


class SquaredTest(NaturalCase):
    def test_beside_times(self):
        for number in NUMBERS + FULL + [mixed(500, 51), 65536 ** 500 - 1, 2 ** 8001 + 1]:
            natural = limbs_of(number)
            self.assert_natural(squared(natural), number * number)
            self.assertEqual(squared(natural), times(natural, natural))

    def test_asked_again(self):
        for natural in [(), (1,), (65535, 65535), (5, 0, 6)]:
            self.assert_told_alike(squared, natural)


class PowerTest(NaturalCase):
    def test_to_the_power_nought_all_are_one(self):
        for number in NUMBERS + FULL + GREAT:
            self.assertEqual(power_of(limbs_of(number), 0), (1,))

    def test_to_the_power_one_all_stay(self):
        for number in NUMBERS + FULL + GREAT:
            self.assert_natural(power_of(limbs_of(number), 1), number)

    def test_small_counts(self):
        for number in NUMBERS + FULL:
            for count in (2, 3, 4, 5, 6, 7):
                self.assert_natural(power_of(limbs_of(number), count), number ** count)

    def test_nought(self):
        self.assertEqual(power_of((), 0), (1,))
        for count in [1, 2, 3, 16, 17, 999, 10 ** 9, 10 ** 30]:
            with self.subTest(count):
                self.assertEqual(power_of((), count), ())

    def test_one(self):
        for count in [0, 1, 2, 3, 16, 17, 999, 10 ** 9, 2 ** 64, 10 ** 30]:
            with self.subTest(count):
                self.assertEqual(power_of((1,), count), (1,))

    def test_small_numbers_to_powers_of_some_hundreds(self):
        for number in [2, 3, 4, 5, 6, 7, 10, 255, 256, 257, 65535, 65536, 65537]:
            for count in [99, 100, 127, 128, 129, 255, 256, 257, 300, 511, 640, 777]:
                with self.subTest(number, count=count):
                    self.assert_natural(power_of(limbs_of(number), count), number ** count)

    def test_up_to_two_thousand_limbs(self):
        for number, count in [(2, 31999), (10, 9000), (65535, 2000), (mixed(20, 52), 100)]:
            with self.subTest(number, count=count):
                self.assert_natural(power_of(limbs_of(number), count), number ** count)

    def test_a_count_below_nought_is_refused(self):
        for natural in [(), (1,), (2,), (7,), (0, 1), (5, 6, 7), limbs_of(GREAT[0]), limbs_of(GREAT[-1])]:
            for count in BELOW:
                with self.subTest(count), self.assertRaises(NoCount):
                    power_of(natural, count)

    def test_asked_again(self):
        for natural in [(), (1,), (65535, 65535), (5, 0, 6)]:
            for count in (0, 1, 2, 5):
                self.assert_told_alike(power_of, natural, count)


class RowsTest(NaturalCase):
    def test_by_hand(self):
        rows = [
            ((), (), []), ((7,), (), []), ((1, 2, 3), (), []), ((), (5,), [()]), ((), (5, 0, 6), [(), (), ()]),
            ((7,), (3,), [(21,)]), ((7,), (3, 0, 5), [(21,), (), (0, 0, 35)]), ((7,), (0, 1), [(), (0, 7)]),
            ((1, 2), (0, 0, 3), [(), (), (0, 0, 3, 6)]), ((0, 4), (2, 3), [(0, 8), (0, 0, 12)]),
            ((65535,), (65535, 65535), [(1, 65534), (0, 1, 65534)]),
            ((65535, 65535), (1, 65535), [(65535, 65535), (0, 1, 65535, 65534)]),
        ]
        for one, other, told in rows:
            with self.subTest(one=one, other=other):
                self.assertEqual(rows_of(one, other), told)

    def assert_rows(self, one, other):
        told = rows_of(limbs_of(one), limbs_of(other))
        worths = [one * limb * 65536 ** place for place, limb in enumerate(limbs_of(other))]
        self.assert_naturals(told, worths)
        self.assert_natural(total_of(told), one * other)
        self.assertEqual(total_of(told), times(limbs_of(one), limbs_of(other)))

    def test_numbers(self):
        numbers = NUMBERS[::3] + FULL
        for one in numbers:
            for other in numbers:
                self.assert_rows(one, other)

    def test_limbs_that_are_nought_within(self):
        for one in [0, 1, 65535, 65536, mixed(5, 53)]:
            for other in [65536, 65536 ** 4, 65536 ** 4 + 1, 7 * 65536 ** 3 + 9 * 65536]:
                self.assert_rows(one, other)

    def test_many_limbs(self):
        self.assert_rows(mixed(100, 54), mixed(60, 55))
        self.assert_rows(mixed(3, 56), mixed(200, 57))
        self.assert_rows(0, mixed(2000, 58))
        self.assert_rows(mixed(2000, 58), 0)

    def test_a_list_changed_is_told_again_as_it_was(self):
        for one, other in SOME_PAIRS:
            with self.subTest(one=one, other=other):
                self.assert_own_list(lambda: rows_of(one, other))

    def test_asked_again(self):
        for one, other in SOME_PAIRS:
            self.assert_told_alike(rows_of, one, other)


if __name__ == "__main__":
    unittest.main()
