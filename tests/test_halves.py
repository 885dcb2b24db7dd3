import unittest
from unittest import mock

from endless import halves
from endless.errors import NoCount
from endless.halves import halves_of, split_of, times_split
from endless.products import times
from tests.samples import BELOW, FULL, GREAT, NUMBERS, NaturalCase, limbs_of, mixed

FAR = 10 ** 30
SOME = NUMBERS[::3] + FULL
LENGTHS = [1, 2, 3, 4, 5, 7, 8, 9, 15, 16, 17, 40, 41, 64, 100]


class HalvesTest(NaturalCase):
    def test_by_hand(self):
        rows = [
            ((), 0, ((), ())), ((), 1, ((), ())), ((), FAR, ((), ())),
            ((7,), 0, ((), (7,))), ((7,), 1, ((7,), ())), ((7,), 2, ((7,), ())), ((7,), FAR, ((7,), ())),
            ((1, 2, 3), 0, ((), (1, 2, 3))), ((1, 2, 3), 1, ((1,), (2, 3))), ((1, 2, 3), 2, ((1, 2), (3,))),
            ((1, 2, 3), 3, ((1, 2, 3), ())), ((1, 2, 3), 4, ((1, 2, 3), ())), ((1, 2, 3), FAR, ((1, 2, 3), ())),
            ((1, 0, 3), 2, ((1,), (3,))), ((1, 0, 0, 0, 3), 4, ((1,), (3,))), ((1, 0, 0, 0, 3), 2, ((1,), (0, 0, 3))),
            ((0, 0, 3), 1, ((), (0, 3))), ((0, 0, 3), 2, ((), (3,))), ((0, 0, 3), 3, ((0, 0, 3), ())),
            ((0, 5, 0, 3), 3, ((0, 5), (3,))),
        ]
        for natural, count, told in rows:
            with self.subTest(natural=natural, count=count):
                self.assert_tuple(halves_of(natural, count), 2)
                self.assertEqual(halves_of(natural, count), told)

    def assert_halves(self, number, count):
        told = halves_of(limbs_of(number), count)
        end = 65536 ** min(count, 2001)
        self.assert_tuple(told, 2)
        self.assert_natural(told[0], number % end)
        self.assert_natural(told[1], number // end)

    def test_numbers(self):
        for number in NUMBERS + FULL:
            length = len(limbs_of(number))
            for count in {0, 1, 2, 3, length // 2, max(length - 1, 0), length, length + 1, length + 50, FAR}:
                self.assert_halves(number, count)

    def test_great_ones(self):
        for number in GREAT:
            for count in (0, 1, 500, 1000, 1001, 1999, 2000, 2001, 2 ** 64, FAR):
                self.assert_halves(number, count)

    def test_a_count_below_nought_is_refused(self):
        for natural in [(), (7,), (1, 2, 3), limbs_of(GREAT[-1])]:
            for count in BELOW:
                with self.subTest(count), self.assertRaises(NoCount):
                    halves_of(natural, count)

    def test_asked_again(self):
        for natural in [(), (7,), (1, 0, 3)]:
            for count in (0, 1, 2, 3, FAR):
                self.assert_told_alike(halves_of, natural, count)


class SplitTest(NaturalCase):
    def test_by_hand(self):
        rows = [
            ((), (), (0, (), (), ())), ((), (7,), (1, (), (), ())), ((7,), (), (1, (), (), ())),
            ((), (1, 2, 3), (2, (), (), ())), ((6,), (7,), (1, (42,), (), ())),
            ((1, 2), (3, 4), (1, (3,), (10,), (8,))), ((1, 2), (3,), (1, (3,), (6,), ())),
            ((3,), (1, 2), (1, (3,), (6,), ())), ((1, 2, 3), (5,), (2, (5, 10), (15,), ())),
            ((0, 0, 3), (0, 0, 5), (2, (), (), (15,))), ((1, 0, 3), (1, 0, 5), (2, (1,), (8,), (15,))),
            ((65535, 65535), (65535, 65535), (1, (1, 65534), (2, 65532, 1), (1, 65534))),
        ]
        for one, other, told in rows:
            with self.subTest(one=one, other=other):
                self.assertEqual(split_of(one, other), told)

    def assert_split(self, one, other):
        told = split_of(limbs_of(one), limbs_of(other))
        half = -(-max(len(limbs_of(one)), len(limbs_of(other))) // 2)
        end = 65536 ** half
        low, high = (one % end) * (other % end), (one // end) * (other // end)
        middle = (one % end + one // end) * (other % end + other // end) - low - high
        self.assert_tuple(told, 4)
        self.assert_number(told[0], half)
        self.assert_natural(told[1], low)
        self.assert_natural(told[2], middle)
        self.assert_natural(told[3], high)
        self.assertTrue(low + middle * end + high * end * end == one * other)

    def test_numbers(self):
        for one in SOME:
            for other in SOME:
                self.assert_split(one, other)

    def test_even_odd_and_unlike_lengths(self):
        for length in LENGTHS:
            for other in LENGTHS:
                self.assert_split(mixed(length, 61), mixed(other, 62))

    def test_great_ones(self):
        self.assert_split(mixed(1000, 63), mixed(999, 64))
        self.assert_split(mixed(1999, 65), 65535)
        self.assert_split(0, mixed(2000, 66))

    def test_asked_again(self):
        for one, other in [((), ()), ((), (7,)), ((1, 2, 3), (4,)), ((65535, 65535), (65535, 65535))]:
            self.assert_told_alike(split_of, one, other)


class TimesSplitTest(NaturalCase):
    def assert_product(self, one, other, *least):
        told = times_split(limbs_of(one), limbs_of(other), *least)
        self.assert_natural(told, one * other)
        self.assertEqual(told, times(limbs_of(one), limbs_of(other)))

    def test_numbers(self):
        for one in SOME:
            for other in SOME:
                self.assert_product(one, other)
                self.assert_product(one, other, 2)

    def test_by_each_least_and_length(self):
        for least in (2, 3, 4, 5, 6, 7, 8, 9, FAR):
            for length in LENGTHS:
                for other in (1, 2, least - 1, least, least + 1, 40, 41, 90):
                    self.assert_product(mixed(length, 71), mixed(min(other, 90), 72), least)

    def test_limbs_all_full(self):
        # The sums of such halves have a limb more than the halves, so that they do not get shorter at once.
        for least in (2, 3, 4, 8):
            for one in FULL:
                for other in FULL:
                    self.assert_product(one, other, least)

    def test_limbs_that_are_nought_within(self):
        for least in (2, 3, 8):
            for one in [65536 ** 9, 65536 ** 16 + 1, 65536 ** 40 - 65536 ** 20, 65536 ** 41 + 65536 ** 20]:
                for other in [65536 ** 9 - 1, 65536 ** 40, 65536 ** 17 + 5]:
                    self.assert_product(one, other, least)

    def test_nought_and_one(self):
        for least in (2, 8, FAR):
            for number in [0, 1, 65535, mixed(40, 73), GREAT[0]]:
                for other in (0, 1):
                    self.assert_product(number, other, least)
                    self.assert_product(other, number, least)

    def test_hundreds_of_limbs(self):
        self.assert_product(mixed(300, 74), mixed(290, 75))
        self.assert_product(mixed(300, 74), mixed(290, 75), 2)
        self.assert_product(mixed(700, 76), mixed(45, 77))
        self.assert_product(mixed(1000, 78), mixed(1000, 79))

    def test_least_by_its_place_and_by_its_name(self):
        one, other = limbs_of(mixed(40, 80)), limbs_of(mixed(50, 81))
        for least in (2, 3, 8, 9, FAR):
            with self.subTest(least):
                self.assertEqual(times_split(one, other, least), times(one, other))
                self.assertEqual(times_split(one, other, least=least), times(one, other))

    def test_a_least_below_two_is_refused(self):
        for one in [(), (7,), (1, 2, 3), limbs_of(mixed(40, 82))]:
            for other in [(), (7,), limbs_of(mixed(20, 83))]:
                for least in [1, 0] + BELOW:
                    with self.subTest(least):
                        with self.assertRaises(NoCount):
                            times_split(one, other, least)
                        with self.assertRaises(NoCount):
                            times_split(one, other, least=least)

    def plain_products(self, one, other, *least):
        """The lengths of the pairs that come to a plain product."""
        with mock.patch.object(halves, "times", wraps=times) as plain:
            times_split(one, other, *least)
        return [sorted(len(natural) for natural in call.args) for call in plain.call_args_list]

    def test_it_is_split_down_to_fewer_limbs_than_least(self):
        one, other = limbs_of(mixed(40, 84)), limbs_of(mixed(44, 85))
        for least in (2, 3, 5, 8, 9, 40):
            with self.subTest(least):
                pairs = self.plain_products(one, other, least)
                self.assertGreater(len(pairs), 1)
                self.assertLess(max(shorter for shorter, longer in pairs), least)
        self.assertEqual(self.plain_products(one, other), self.plain_products(one, other, 8))

    def test_it_is_not_split_below_least(self):
        for length, least in [(7, 8), (40, 41), (40, FAR), (1, 2)]:
            with self.subTest(length, least=least):
                one, other = limbs_of(mixed(length, 86)), limbs_of(mixed(60, 87))
                self.assertEqual(self.plain_products(one, other, least), [[length, 60]])
                self.assertEqual(self.plain_products(other, one, least), [[length, 60]])

    def test_asked_again(self):
        for one, other in [((), ()), ((), (7,)), ((1, 2, 3), (4, 5)), ((65535,) * 20, (65535,) * 30)]:
            self.assert_told_alike(times_split, one, other)
            self.assert_told_alike(times_split, one, other, 2)


if __name__ == "__main__":
    unittest.main()
