import math
import unittest

from endless.commons import common_of
from tests.samples import FULL, GREAT, NUMBERS, NaturalCase, limbs_of, mixed, sums_row

SOME_PAIRS = [((), ()), ((), (7,)), ((7,), ()), ((12,), (18,)), ((18,), (12,)), ((1, 2, 3), (4, 5))]


def quotients_between(one, other):
    quotients = []
    while other > 0:
        quotients.append(one // other)
        one, other = other, one % other
    return quotients


class CommonTest(NaturalCase):
    def test_by_hand(self):
        rows = [
            ((), (), ((), [])), ((), (7,), ((7,), [()])), ((7,), (), ((7,), [])), ((7,), (7,), ((7,), [(1,)])),
            ((12,), (18,), ((6,), [(), (1,), (2,)])), ((18,), (12,), ((6,), [(1,), (2,)])),
            ((6,), (18,), ((6,), [(), (3,)])), ((18,), (6,), ((6,), [(3,)])), ((7,), (5,), ((1,), [(1,), (2,), (2,)])),
            ((0, 0, 1), (0, 1), ((0, 1), [(0, 1)])), ((0, 1), (1,), ((1,), [(0, 1)])), ((1,), (1,), ((1,), [(1,)])),
            ((), (1, 2, 3), ((1, 2, 3), [()])),
        ]
        for one, other, told in rows:
            with self.subTest(one=one, other=other):
                self.assertEqual(common_of(one, other), told)

    def assert_common(self, one, other):
        told = common_of(limbs_of(one), limbs_of(other))
        self.assert_tuple(told, 2)
        self.assert_natural(told[0], math.gcd(one, other))
        self.assert_naturals(told[1], quotients_between(one, other))

    def assert_either_way(self, one, other):
        self.assert_common(one, other)
        self.assert_common(other, one)

    def test_numbers(self):
        numbers = NUMBERS[::2] + FULL
        for one in numbers:
            for other in numbers:
                self.assert_common(one, other)

    def test_nought_and_another(self):
        for number in NUMBERS + FULL + GREAT:
            self.assert_either_way(number, 0)

    def test_the_same_one_twice(self):
        for number in NUMBERS + FULL + GREAT[:3]:
            self.assert_common(number, number)

    def test_one_that_divides_the_other(self):
        for number in [1, 2, 65535, 65536, mixed(3, 111), mixed(20, 112), 65536 ** 30 - 1]:
            for often in [2, 3, 65535, 65536, mixed(2, 113), mixed(25, 114)]:
                self.assert_either_way(number * often, number)

    def test_nothing_in_common_but_one(self):
        pairs = [(2 ** 300, 3 ** 150), (65537, 65536 ** 5), (10 ** 50, 10 ** 50 + 1), (2 ** 127 - 1, 2 ** 89 - 1)]
        for one, other in pairs:
            self.assertEqual(math.gcd(one, other), 1)
            self.assert_either_way(one, other)

    def test_both_times_a_third_one(self):
        for third in [2, 7, 65535, 65536, 65537, mixed(4, 115), mixed(40, 116), 2 ** 500]:
            for one, other in [(8, 9), (65535, 65536), (mixed(3, 117), mixed(5, 118)), (2 ** 90, 3 ** 60)]:
                self.assert_either_way(one * third, other * third)

    def test_neighbours_of_a_row_of_sums(self):
        rows = [sums_row(110), sums_row(250), sums_row(495), sums_row(200, 7 * 65536, 21 * 65536), sums_row(150, 3, 1)]
        for row in rows:
            one, other = row[-1], row[-2]
            self.assertGreaterEqual(len(quotients_between(one, other)), 100)
            self.assert_either_way(one, other)

    def test_great_ones_with_great_quotients(self):
        one, other = mixed(4, 119), 0
        for seed in range(120, 170):
            one, other = one * mixed(10, seed) + other, one
        self.assert_either_way(one, other)
        self.assert_either_way(65536 ** 2000 - 1, 65536 ** 1500 - 1)

    def test_a_list_changed_is_told_again_as_it_was(self):
        for one, other in SOME_PAIRS:
            with self.subTest(one=one, other=other):
                self.assert_own_list(lambda: common_of(one, other), lambda told: told[1])

    def test_asked_again(self):
        for one, other in SOME_PAIRS:
            self.assert_told_alike(common_of, one, other)


if __name__ == "__main__":
    unittest.main()
