import unittest
from fractions import Fraction

from endless.errors import ByNought, NoWay
from endless.quotients import divided
from tests.samples import FULL, GREAT, NO_TEXTS, NO_WAY_TEXTS, SIGNED, WholeCase, either_sign, mixed, whole_by

NOUGHT = (0, ())
WAYS = ("down", "up", "zero", "near")
FIRSTS = SIGNED[::4] + either_sign([0, 1, 2, 3, 65535, 65536, 65536 ** 2, mixed(4, 401), mixed(20, 402)])
SECONDS = either_sign([
    1, 2, 3, 4, 5, 7, 10, 255, 256, 65534, 65535, 65536, 65537, 65536 ** 2 - 1, 65536 ** 2, 65536 ** 2 + 1,
    65536 ** 4 - 1, mixed(2, 403), mixed(3, 404), mixed(9, 405),
])
SOME = [NOUGHT, (1, (1,)), (-1, (1,)), (1, (65535,)), (-1, (0, 1)), (1, (5, 0, 6)), (-1, (65535, 65535))]
NO_WAYS = NO_WAY_TEXTS + ["away", "half_even", "half_zero", "half_away"] + NO_TEXTS + [WAYS, list(WAYS)]


def quotient_by(way, one, other):
    if way == "down":
        return one // other
    if way == "up":
        return -(-one // other)
    if way == "zero":
        size = abs(one) // abs(other)
        return size if (one < 0) == (other < 0) else -size
    return round(Fraction(one, other))


class DividedTest(WholeCase):
    def assert_told(self, told, one, other, way):
        quotient = quotient_by(way, one, other)
        self.assert_tuple(told, 2)
        self.assert_whole(told[0], quotient)
        self.assert_whole(told[1], one - quotient * other)

    def assert_divided(self, one, other):
        for way in WAYS:
            self.assert_told(divided(whole_by(one), whole_by(other), way), one, other, way)

    def assert_all_signs(self, one, other):
        for sign in (1, -1):
            for other_sign in (1, -1):
                self.assert_divided(sign * one, other_sign * other)

    def test_by_hand(self):
        # The first and the second; then quotient and rest by down, by up, by zero and by near.
        rows = [
            (7, 2, 3, 1, 4, -1, 3, 1, 4, -1), (-7, 2, -4, 1, -3, -1, -3, -1, -4, 1),
            (7, -2, -4, -1, -3, 1, -3, 1, -4, -1), (-7, -2, 3, -1, 4, 1, 3, -1, 4, 1),
            (5, 2, 2, 1, 3, -1, 2, 1, 2, 1), (-5, 2, -3, 1, -2, -1, -2, -1, -2, -1),
            (5, -2, -3, -1, -2, 1, -2, 1, -2, 1), (-5, -2, 2, -1, 3, 1, 2, -1, 2, -1),
            (6, 3, 2, 0, 2, 0, 2, 0, 2, 0), (-6, 3, -2, 0, -2, 0, -2, 0, -2, 0), (0, 3, 0, 0, 0, 0, 0, 0, 0, 0),
            (1, 3, 0, 1, 1, -2, 0, 1, 0, 1), (-1, 3, -1, 2, 0, -1, 0, -1, 0, -1),
            (2, 3, 0, 2, 1, -1, 0, 2, 1, -1), (-2, 3, -1, 1, 0, -2, 0, -2, -1, 1),
            (1, 2, 0, 1, 1, -1, 0, 1, 0, 1), (-1, 2, -1, 1, 0, -1, 0, -1, 0, -1), (3, 2, 1, 1, 2, -1, 1, 1, 2, -1),
        ]
        for row in rows:
            one, other = whole_by(row[0]), whole_by(row[1])
            for place, way in enumerate(WAYS):
                with self.subTest(way, one=row[0], other=row[1]):
                    told = (whole_by(row[2 + 2 * place]), whole_by(row[3 + 2 * place]))
                    self.assertEqual(divided(one, other, way), told)

    def test_each_of_the_first_ones(self):
        for one in range(-30, 31):
            for other in range(1, 13):
                self.assert_divided(one, other)
                self.assert_divided(one, -other)

    def test_pairs(self):
        for one in FIRSTS:
            for other in SECONDS:
                self.assert_divided(one, other)

    def test_a_lesser_one_and_the_same_one(self):
        for number in SECONDS:
            for one in (0, number - 1, number, number + 1, -number, 1 - number, -1 - number):
                self.assert_divided(one, number)

    def test_products_and_their_neighbours(self):
        for often in (1, 2, 3, 65535, 65536, mixed(3, 406), 65536 ** 3 - 1):
            for other in SECONDS:
                for more in (-1, 0, 1):
                    self.assert_divided(often * other + more, other)
                    self.assert_divided(-often * other + more, other)

    def test_halves_and_their_neighbours(self):
        # Beside an even and an odd quotient, and half of a second one that is itself even or odd.
        for often in (0, 1, 2, 3, 65534, 65535, 65536, 65537, mixed(2, 407), mixed(2, 407) + 1):
            for half in (1, 2, 3, 5, 32767, 32768, 32769, 65536, 65536 ** 2, mixed(3, 408)):
                for more in (-1, 0, 1):
                    self.assert_all_signs(often * 2 * half + half + more, 2 * half)
                    self.assert_all_signs(often * (2 * half + 1) + half + more, 2 * half + 1)

    def test_by_one(self):
        for number in SIGNED + FULL:
            for way in WAYS:
                self.assertEqual(divided(whole_by(number), (1, (1,)), way), (whole_by(number), NOUGHT))
                self.assertEqual(divided(whole_by(number), (-1, (1,)), way), (whole_by(-number), NOUGHT))

    def test_many_limbs(self):
        pairs = [(mixed(200, 409), mixed(90, 410)), (65536 ** 150 - 1, 65536 ** 70), (2 ** 1600, mixed(3, 411))]
        for one, other in pairs:
            self.assert_all_signs(one, other)
            self.assert_all_signs(other, one)
        self.assert_all_signs(GREAT[-1], mixed(1995, 412))

    def test_the_way_left_out_is_down(self):
        for one in FIRSTS:
            for other in SECONDS[::3]:
                self.assert_told(divided(whole_by(one), whole_by(other)), one, other, "down")

    def test_the_way_by_its_name(self):
        for one in (0, 7, -7, 5, -5, 65536, mixed(5, 413)):
            for other in (2, -2, 3, -65535):
                for way in WAYS:
                    self.assert_told(divided(whole_by(one), whole_by(other), way=way), one, other, way)
                    told = divided(one=whole_by(one), other=whole_by(other), way=way)
                    self.assert_told(told, one, other, way)

    def assert_no_way(self, one, other, way):
        with self.assertRaises(NoWay):
            divided(one, other, way)
        with self.assertRaises(NoWay):
            divided(one, other, way=way)

    def test_other_ways_are_refused(self):
        for way in NO_WAYS:
            for one in SOME:
                self.assert_no_way(one, (1, (7,)), way)
            self.assertEqual(divided((1, (7,)), (1, (2,))), ((1, (3,)), (1, (1,))))

    def test_no_way_comes_ahead_of_nought(self):
        for way in NO_WAYS:
            for one in SOME:
                self.assert_no_way(one, NOUGHT, way)

    def test_a_list_as_a_way_stays_as_it_was(self):
        way = ["down", ["up"]]
        self.assert_no_way((1, (7,)), (1, (2,)), way)
        self.assertEqual(way, ["down", ["up"]])

    def test_by_nought_is_refused(self):
        for one in SOME + [whole_by(GREAT[0])]:
            with self.assertRaises(ByNought):
                divided(one, NOUGHT)
            for way in WAYS:
                with self.subTest(way), self.assertRaises(ByNought):
                    divided(one, NOUGHT, way)
                self.assertEqual(divided(one, (1, (1,)), way), (one, NOUGHT))

    def test_asked_again(self):
        for one in SOME:
            for other in SOME[1:]:
                for way in WAYS:
                    self.assert_told_alike(divided, one, other, way)


if __name__ == "__main__":
    unittest.main()
