import unittest

from endless.bits import and_of, bit_at, bits_of, moved_down, moved_up, ones_of, or_of, xor_of
from endless.errors import NoCount
from tests.samples import BELOW, GREAT, GREAT_PAIRS, NUMBERS, PAIRS, NaturalCase, limbs_of, mixed

COUNTS = [0, 1, 2, 7, 15, 16, 17, 31, 32, 33, 48, 100]
VAST = [10 ** 9, 2 ** 63, 2 ** 64, 10 ** 30]


class JoinedTest(NaturalCase):
    def test_by_hand(self):
        rows = [
            ((), (), (), (), ()),
            ((), (7,), (), (7,), (7,)),
            ((7,), (), (), (7,), (7,)),
            ((12,), (10,), (8,), (14,), (6,)),
            ((7,), (7,), (7,), (7,), ()),
            ((1, 2, 3), (1, 4, 3), (1, 0, 3), (1, 6, 3), (0, 6)),
            ((1, 2, 3), (9, 2, 3), (1, 2, 3), (9, 2, 3), (8,)),
            ((5, 1), (5, 2), (5,), (5, 3), (0, 3)),
            ((0, 1), (1,), (), (1, 1), (1, 1)),
            ((65535, 0, 9), (65535,), (65535,), (65535, 0, 9), (0, 0, 9)),
            ((65535,), (65535, 0, 9), (65535,), (65535, 0, 9), (0, 0, 9)),
        ]
        for one, other, both, either, unlike in rows:
            with self.subTest(one=one, other=other):
                self.assertEqual(and_of(one, other), both)
                self.assertEqual(or_of(one, other), either)
                self.assertEqual(xor_of(one, other), unlike)

    def assert_joined(self, one, other):
        self.assert_natural(and_of(limbs_of(one), limbs_of(other)), one & other)
        self.assert_natural(or_of(limbs_of(one), limbs_of(other)), one | other)
        self.assert_natural(xor_of(limbs_of(one), limbs_of(other)), one ^ other)

    def test_pairs(self):
        for one, other in PAIRS + GREAT_PAIRS:
            self.assert_joined(one, other)

    def test_highest_limbs_that_vanish(self):
        high = mixed(1000, 21) * 65536 ** 500
        for low in (0, 1, mixed(500, 22)):
            self.assert_joined(high + low, high)
            self.assert_joined(high + low, low)
            self.assert_joined(high, high)


class MovedTest(NaturalCase):
    def test_moved_up(self):
        for number in NUMBERS:
            with self.subTest(number):
                for count in COUNTS:
                    self.assert_natural(moved_up(limbs_of(number), count), number * 2 ** count)

    def test_moved_down(self):
        for number in NUMBERS:
            last = number.bit_length()
            with self.subTest(number):
                for count in COUNTS + [max(last - 1, 0), last, last + 1, last + 16, last + 1000]:
                    self.assert_natural(moved_down(limbs_of(number), count), number // 2 ** count)

    def test_great_ones(self):
        for number in [mixed(1001, 31), mixed(1500, 32), 65536 ** 1200 - 1, 65536 ** 1200]:
            for count in COUNTS + [1000, 5000]:
                with self.subTest(count):
                    self.assert_natural(moved_up(limbs_of(number), count), number * 2 ** count)
                    self.assert_natural(moved_down(limbs_of(number), count), number // 2 ** count)

    def test_down_beyond_the_last_bit(self):
        for natural in [(), (1,), (65535,), (0, 1), limbs_of(GREAT[-1])]:
            for count in [32000] + VAST:
                with self.subTest(count):
                    self.assertEqual(moved_down(natural, count), ())

    def test_down_to_the_last_bit(self):
        for number in GREAT:
            self.assertEqual(moved_down(limbs_of(number), number.bit_length() - 1), (1,))
            self.assertEqual(moved_down(limbs_of(number), number.bit_length()), ())

    def test_nought_moved_up_however_far_is_nought(self):
        for count in COUNTS + VAST:
            with self.subTest(count):
                self.assertEqual(moved_up((), count), ())

    def test_the_count_left_out_is_one(self):
        for number in NUMBERS + GREAT[:4]:
            self.assert_natural(moved_up(limbs_of(number)), number * 2)
            self.assert_natural(moved_down(limbs_of(number)), number // 2)

    def test_a_count_below_nought_is_refused(self):
        for natural in [(), (1,), (5, 6, 7), limbs_of(GREAT[0])]:
            for count in BELOW:
                with self.subTest(count):
                    with self.assertRaises(NoCount):
                        moved_up(natural, count)
                    with self.assertRaises(NoCount):
                        moved_down(natural, count)


class BitAtTest(NaturalCase):
    def test_within_at_and_beyond_the_last_bit(self):
        for number in NUMBERS:
            with self.subTest(number):
                for place in range(number.bit_length() + 20):
                    self.assert_number(bit_at(limbs_of(number), place), (number >> place) % 2)

    def test_great_ones(self):
        for number in GREAT:
            last = number.bit_length() - 1
            for place in list(range(0, last + 40, 101)) + [last - 1, last, last + 1]:
                self.assert_number(bit_at(limbs_of(number), place), (number >> place) % 2)

    def test_far_beyond_the_last_bit(self):
        for natural in [(), (1,), (65535, 65535), limbs_of(GREAT[-1])]:
            for place in [32000, 32001] + VAST:
                with self.subTest(place):
                    self.assert_number(bit_at(natural, place), 0)

    def test_a_place_below_nought_is_refused(self):
        for natural in [(), (1,), (65535, 65535), limbs_of(GREAT[0])]:
            for place in BELOW:
                with self.subTest(place), self.assertRaises(NoCount):
                    bit_at(natural, place)


class CountedTest(NaturalCase):
    def test_by_hand(self):
        rows = [((), 0, 0), ((1,), 1, 1), ((2,), 2, 1), ((3,), 2, 2), ((65535,), 16, 16), ((0, 1), 17, 1)]
        for natural, bits, ones in rows + [((1, 32768), 32, 2), ((65535, 0, 65535), 48, 32)]:
            with self.subTest(natural):
                self.assert_number(bits_of(natural), bits)
                self.assert_number(ones_of(natural), ones)

    def test_numbers(self):
        for number in NUMBERS + GREAT:
            self.assert_number(bits_of(limbs_of(number)), number.bit_length())
            self.assert_number(ones_of(limbs_of(number)), bin(number).count("1"))


if __name__ == "__main__":
    unittest.main()
