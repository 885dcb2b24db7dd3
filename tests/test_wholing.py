import math
import unittest
from fractions import Fraction

from endless.errors import NoWay
from endless.wholing import nearest_whole
from tests.samples import (
    FULL, GREAT, NO_TEXTS, NO_WAY_TEXTS, SIGNED, FractionCase, either_sign, fraction_by, mixed, whole_by,
)

WAYS = ("down", "up", "zero", "away", "half_even", "half_zero", "half_away")
NO_WAYS = NO_WAY_TEXTS + ["near"] + NO_TEXTS + [WAYS, list(WAYS)]
SIZES = [0, 1, 2, 3, 7, 8, 65534, 65535, 65536, 65537, 65536 ** 2 - 1, 65536 ** 2, mixed(5, 601), mixed(5, 601) + 1]
LOWERS = [2, 3, 4, 5, 7, 10, 255, 256, 65534, 65535, 65536, 65537, 65536 ** 2, 65536 ** 3 - 1, mixed(3, 602)]
SOME = [Fraction(*pair) for pair in [(0, 1), (1, 1), (-3, 1), (1, 2), (-1, 2), (5, 2), (-7, 2), (10, 3), (-2, 65537)]]


def size_by(way, size):
    """What the size of a fraction above nought is rounded to by a way that looks at nothing but sizes."""
    if way == "zero":
        return math.floor(size)
    if way == "away":
        return math.ceil(size)
    if way == "half_zero":
        return math.ceil(size - Fraction(1, 2))
    if way == "half_away":
        return math.floor(size + Fraction(1, 2))
    return round(size)


def rounded_by(way, fraction):
    if way == "down":
        return math.floor(fraction)
    if way == "up":
        return math.ceil(fraction)
    return size_by(way, fraction) if fraction > 0 else -size_by(way, -fraction)


class NearestWholeTest(FractionCase):
    def assert_rounded(self, fraction):
        for way in WAYS:
            self.assert_whole(nearest_whole(fraction_by(fraction), way), rounded_by(way, fraction))

    def assert_both_signs(self, fraction):
        self.assert_rounded(fraction)
        self.assert_rounded(-fraction)

    def test_by_hand(self):
        # The two numbers; then the whole by each of the seven ways.
        rows = [
            (0, 1, 0, 0, 0, 0, 0, 0, 0), (3, 1, 3, 3, 3, 3, 3, 3, 3), (-3, 1, -3, -3, -3, -3, -3, -3, -3),
            (1, 2, 0, 1, 0, 1, 0, 0, 1), (-1, 2, -1, 0, 0, -1, 0, 0, -1), (3, 2, 1, 2, 1, 2, 2, 1, 2),
            (-3, 2, -2, -1, -1, -2, -2, -1, -2), (5, 2, 2, 3, 2, 3, 2, 2, 3), (-5, 2, -3, -2, -2, -3, -2, -2, -3),
            (7, 3, 2, 3, 2, 3, 2, 2, 2), (-7, 3, -3, -2, -2, -3, -2, -2, -2), (8, 3, 2, 3, 2, 3, 3, 3, 3),
            (-8, 3, -3, -2, -2, -3, -3, -3, -3), (1, 3, 0, 1, 0, 1, 0, 0, 0), (-1, 3, -1, 0, 0, -1, 0, 0, 0),
            (2, 3, 0, 1, 0, 1, 1, 1, 1), (-2, 3, -1, 0, 0, -1, -1, -1, -1),
        ]
        for row in rows:
            for place, way in enumerate(WAYS):
                with self.subTest(way, above=row[0], below=row[1]):
                    told = nearest_whole(fraction_by(Fraction(row[0], row[1])), way)
                    self.assertEqual(told, whole_by(row[2 + place]))

    def test_each_of_the_first_ones(self):
        for above in range(-40, 41):
            for below in range(1, 13):
                self.assert_rounded(Fraction(above, below))

    def test_wholes_stay(self):
        for number in SIGNED + either_sign(GREAT):
            for way in WAYS:
                self.assertEqual(nearest_whole((whole_by(number), (1,)), way), whole_by(number))

    def test_halves_beside_even_and_odd_wholes(self):
        for number in SIZES + FULL + [GREAT[-1] // 2]:
            self.assert_both_signs(number + Fraction(1, 2))

    def test_just_above_and_just_below_a_half(self):
        for number in SIZES:
            for below in LOWERS:
                for near in ((below - 1) // 2, below // 2, below // 2 + 1):
                    self.assert_both_signs(number + Fraction(near, below))

    def test_just_above_and_just_below_a_whole(self):
        for number in SIZES:
            for below in LOWERS:
                self.assert_both_signs(number + Fraction(1, below))
                self.assert_both_signs(number - Fraction(1, below))

    def test_below_one_and_below_a_half(self):
        for below in LOWERS:
            for above in (1, 2, below // 3, below // 2, below - 1):
                self.assert_both_signs(Fraction(above, below))

    def test_many_limbs(self):
        for above, below in [(300, 120), (120, 300), (200, 200), (60, 1)]:
            self.assert_both_signs(Fraction(mixed(above, 603), mixed(below, 604)))
        self.assert_both_signs(Fraction(GREAT[-1], mixed(1990, 605)))
        self.assert_both_signs(Fraction(mixed(100, 606) * 2 + 1, 2 ** 700))
        self.assert_both_signs(mixed(80, 607) + Fraction(2 ** 1000 + 1, 2 ** 1001))
        self.assert_both_signs(mixed(80, 608) + Fraction(2 ** 1000 - 1, 2 ** 1001))

    def test_the_way_left_out_is_half_even(self):
        for number in SIZES:
            for part in [Fraction(0), Fraction(1, 2), Fraction(1, 3), Fraction(2, 3)]:
                for fraction in (number + part, -number - part):
                    self.assert_whole(nearest_whole(fraction_by(fraction)), round(fraction))

    def test_the_way_by_its_name(self):
        for fraction in SOME:
            for way in WAYS:
                told = rounded_by(way, fraction)
                self.assert_whole(nearest_whole(fraction_by(fraction), way=way), told)
                self.assert_whole(nearest_whole(fraction=fraction_by(fraction), way=way), told)

    def assert_no_way(self, fraction, way):
        with self.assertRaises(NoWay):
            nearest_whole(fraction, way)
        with self.assertRaises(NoWay):
            nearest_whole(fraction, way=way)

    def test_other_ways_are_refused(self):
        for way in NO_WAYS:
            for fraction in SOME:
                self.assert_no_way(fraction_by(fraction), way)
            self.assertEqual(nearest_whole(((1, (7,)), (2,))), (1, (4,)))

    def test_a_list_as_a_way_stays_as_it_was(self):
        way = ["half_even", ["up"]]
        self.assert_no_way(((1, (7,)), (2,)), way)
        self.assertEqual(way, ["half_even", ["up"]])

    def test_asked_again(self):
        for fraction in SOME:
            for way in WAYS:
                self.assert_told_alike(nearest_whole, fraction_by(fraction), way)


if __name__ == "__main__":
    unittest.main()
