import unittest

from endless.twos import inverted, shifted, whole_and, whole_or, whole_xor
from tests.samples import FULL, GREAT, SIGNED, WholeCase, around_powers, either_sign, mixed, whole_by

NOUGHT = (0, ())
ALL_ONES = (-1, (1,))
SIDES = either_sign(
    [0, 1, 2, 3, 5, 10, 255, 256, 32767, 32768, 65534, 65535, 65536, 65537, mixed(1, 501), mixed(2, 502), mixed(9, 503)]
    + around_powers([17, 31, 32, 33, 48, 64, 80, 160]) + FULL[:6]
)
GREAT_SIDES = either_sign([0, 1, GREAT[0], GREAT[1], GREAT[2], GREAT[-1], mixed(1200, 504)])
COUNTS = [0, 1, 2, 7, 15, 16, 17, 31, 32, 33, 48, 100]
VAST = [10 ** 6, 10 ** 9, 2 ** 64, 10 ** 30]
SOME = [NOUGHT, (1, (1,)), ALL_ONES, (1, (65535,)), (-1, (0, 1)), (1, (5, 0, 6)), (-1, (65535, 65535))]


class JoinedTest(WholeCase):
    def test_by_hand(self):
        rows = [
            (0, 0, 0, 0, 0), (12, 10, 8, 14, 6), (-1, 7, 7, -1, -8), (7, -1, 7, -1, -8), (-1, -1, -1, -1, 0),
            (-1, 0, 0, -1, -1), (0, -1, 0, -1, -1), (-2, -3, -4, -1, 3), (-4, 6, 4, -2, -6), (6, -4, 4, -2, -6),
            (5, -5, 1, -1, -2), (-65535, -2, -65536, -1, 65535), (65535, -65536, 0, -1, -1),
            (65535, -65535, 1, -1, -2), (-65536, 65536, 65536, -65536, -131072),
            (-(65536 ** 2) + 1, -(65536 ** 2) + 2, -(65536 ** 2), -(65536 ** 2) + 3, 3),
        ]
        for one, other, both, either, unlike in rows:
            with self.subTest(one=one, other=other):
                self.assertEqual(whole_and(whole_by(one), whole_by(other)), whole_by(both))
                self.assertEqual(whole_or(whole_by(one), whole_by(other)), whole_by(either))
                self.assertEqual(whole_xor(whole_by(one), whole_by(other)), whole_by(unlike))

    def assert_joined(self, one, other):
        self.assert_whole(whole_and(whole_by(one), whole_by(other)), one & other)
        self.assert_whole(whole_or(whole_by(one), whole_by(other)), one | other)
        self.assert_whole(whole_xor(whole_by(one), whole_by(other)), one ^ other)

    def test_each_of_the_first_ones(self):
        for one in range(-20, 20):
            for other in range(-20, 20):
                self.assert_joined(one, other)

    def test_pairs(self):
        # Each pair is there either way about, of unlike lengths too.
        for one in SIDES:
            for other in SIDES:
                self.assert_joined(one, other)

    def test_nought_and_all_ones(self):
        for number in SIGNED + GREAT_SIDES:
            for other in (0, -1, 1):
                self.assert_joined(number, other)
                self.assert_joined(other, number)

    def test_sizes_alike_and_neighbours(self):
        for number in SIGNED:
            for other in (number, -number, number - 1, 1 - number, number + 1, -number - 1):
                self.assert_joined(number, other)

    def test_a_limb_more_than_both(self):
        for limbs in (1, 2, 3, 9):
            top = 65536 ** limbs
            for one, other in [(1 - top, 2 - top), (1 - top, -(top // 2) - 2), (top // 2 + 1 - top, -(top // 2))]:
                self.assert_joined(one, other)
                self.assert_joined(other, one)
            self.assertEqual(whole_and(whole_by(1 - top), whole_by(-2)), whole_by(-top))
            self.assertEqual(whole_xor(whole_by(top - 1), ALL_ONES), whole_by(-top))
            self.assertEqual(whole_xor(whole_by(1 - top), (1, (1,))), whole_by(-top))

    def test_great_ones(self):
        for one in GREAT_SIDES:
            for other in GREAT_SIDES:
                self.assert_joined(one, other)

    def test_asked_again(self):
        for one in SOME:
            for other in SOME:
                self.assert_told_alike(whole_and, one, other)
                self.assert_told_alike(whole_or, one, other)
                self.assert_told_alike(whole_xor, one, other)


class InvertedTest(WholeCase):
    def test_by_hand(self):
        rows = [
            (NOUGHT, ALL_ONES), (ALL_ONES, NOUGHT), ((1, (1,)), (-1, (2,))), ((-1, (2,)), (1, (1,))),
            ((1, (65535,)), (-1, (0, 1))), ((-1, (0, 1)), (1, (65535,))), ((1, (65535,) * 3), (-1, (0, 0, 0, 1))),
        ]
        for whole, other in rows:
            with self.subTest(whole):
                self.assertEqual(inverted(whole), other)

    def test_numbers(self):
        for number in SIGNED + GREAT_SIDES:
            self.assert_whole(inverted(whole_by(number)), ~number)

    def test_twice(self):
        for number in SIGNED + GREAT_SIDES:
            self.assert_whole(inverted(inverted(whole_by(number))), number)

    def test_asked_again(self):
        for whole in SOME:
            self.assert_told_alike(inverted, whole)


class ShiftedTest(WholeCase):
    def assert_shifted(self, number, count):
        worth = number * 2 ** count if count >= 0 else number // 2 ** -count
        self.assert_whole(shifted(whole_by(number), count), worth)

    def test_by_hand(self):
        rows = [
            (5, 0, 5), (-5, 0, -5), (5, 1, 10), (-5, 1, -10), (5, -1, 2), (-5, -1, -3), (4, -2, 1), (-4, -2, -1),
            (4, -3, 0), (-4, -3, -1), (-5, -2, -2), (1, -1, 0), (-1, -1, -1), (-1, -100, -1), (0, 5, 0), (0, -5, 0),
            (1, 16, 65536), (-1, 16, -65536), (-65536, -16, -1), (-65537, -16, -2), (-65535, -16, -1), (65536, -16, 1),
        ]
        for number, count, worth in rows:
            with self.subTest(number, count=count):
                self.assertEqual(shifted(whole_by(number), count), whole_by(worth))

    def test_either_way(self):
        for number in SIGNED:
            last = number.bit_length()
            for count in COUNTS:
                self.assert_shifted(number, count)
                self.assert_shifted(number, -count)
            for count in (last - 1, last, last + 1, last + 16, last + 1000):
                self.assert_shifted(number, -count)

    def test_where_no_bit_of_one_is_dropped(self):
        for number in either_sign([1, 3, 65535, 65537, mixed(3, 505)]):
            for count in COUNTS:
                self.assert_shifted(number * 2 ** count, -count)
                self.assert_shifted(number * 2 ** count + 1, -count)
                self.assert_shifted(number * 2 ** count - 1, -count)
                self.assertEqual(shifted(shifted(whole_by(number), count), -count), whole_by(number))

    def test_great_ones(self):
        for number in either_sign([mixed(1001, 506), 65536 ** 1200, 65536 ** 1200 - 1]):
            for count in COUNTS + [1000, 5000]:
                self.assert_shifted(number, count)
                self.assert_shifted(number, -count)

    def test_far_beyond_the_bits(self):
        for whole in SOME + [whole_by(GREAT[-1]), whole_by(-GREAT[-1])]:
            for count in [32001] + VAST:
                with self.subTest(count):
                    self.assertEqual(shifted(whole, -count), ALL_ONES if whole[0] < 0 else NOUGHT)

    def test_nought_stays_however_far(self):
        for count in COUNTS + VAST:
            self.assert_whole(shifted(NOUGHT, count), 0)
            self.assert_whole(shifted(NOUGHT, -count), 0)

    def test_asked_again(self):
        for whole in SOME:
            for count in (0, 1, 17, -1, -17):
                self.assert_told_alike(shifted, whole, count)


if __name__ == "__main__":
    unittest.main()
