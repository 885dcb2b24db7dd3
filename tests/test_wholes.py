import unittest

from endless.errors import NoCount
from endless.wholes import added, multiplied, raised, ranked, sized, taken, turned, value_of, whole_of
from tests.samples import BELOW, FULL, GREAT, SIGNED, WholeCase, either_sign, mixed, whole_by

NOUGHT = (0, ())
# Both sides of nought, sizes alike and neighbours, so that sums and differences come to nought and pass it.
SIDES = either_sign([
    0, 1, 2, 3, 7, 32768, 65534, 65535, 65536, 65537, 2 * 65536 - 1, 65536 ** 2 - 1, 65536 ** 2, 65536 ** 2 + 1,
    65536 ** 5 - 1, 65536 ** 5, 2 ** 100 - 1, 2 ** 100, 2 ** 100 + 1, mixed(3, 301), mixed(3, 301) + 1, mixed(20, 302),
])
GREAT_SIDES = either_sign([0, 1, GREAT[0], GREAT[1], GREAT[-1], mixed(1999, 303)])
SOME = [NOUGHT, (1, (1,)), (-1, (1,)), (1, (65535,)), (-1, (0, 1)), (1, (5, 0, 6)), (-1, (65535, 65535))]


class WholeOfTest(WholeCase):
    def test_by_hand(self):
        rows = [
            (0, NOUGHT), (1, (1, (1,))), (-1, (-1, (1,))), (65535, (1, (65535,))), (-65535, (-1, (65535,))),
            (65536, (1, (0, 1))), (-65536, (-1, (0, 1))), (65537, (1, (1, 1))), (-65537, (-1, (1, 1))),
            (-(65536 ** 2) - 7, (-1, (7, 0, 1))),
        ]
        for number, whole in rows:
            with self.subTest(number):
                self.assertEqual(whole_of(number), whole)
                self.assert_number(value_of(whole), number)

    def test_there_and_back(self):
        for number in SIGNED + GREAT_SIDES:
            self.assert_whole(whole_of(number), number)
            self.assert_number(value_of(whole_by(number)), number)
            self.assert_number(value_of(whole_of(number)), number)

    def test_asked_again(self):
        for whole in SOME:
            self.assert_told_alike(value_of, whole)
            self.assert_told_alike(whole_of, value_of(whole))


class TurnedTest(WholeCase):
    def test_by_hand(self):
        rows = [(NOUGHT, NOUGHT, ()), ((1, (7,)), (-1, (7,)), (7,)), ((-1, (0, 1)), (1, (0, 1)), (0, 1))]
        for whole, other, natural in rows:
            with self.subTest(whole):
                self.assertEqual(turned(whole), other)
                self.assertEqual(sized(whole), natural)

    def test_numbers(self):
        for number in SIGNED + GREAT_SIDES:
            self.assert_whole(turned(whole_by(number)), -number)
            self.assert_natural(sized(whole_by(number)), abs(number))

    def test_turned_twice(self):
        for number in SIGNED + GREAT_SIDES:
            self.assert_whole(turned(turned(whole_by(number))), number)

    def test_asked_again(self):
        for whole in SOME:
            self.assert_told_alike(turned, whole)
            self.assert_told_alike(sized, whole)


class RankedTest(WholeCase):
    def assert_ranked(self, one, other):
        self.assert_number(ranked(whole_by(one), whole_by(other)), (one > other) - (one < other))

    def test_by_hand(self):
        rows = [
            (NOUGHT, NOUGHT, 0), (NOUGHT, (1, (1,)), -1), (NOUGHT, (-1, (1,)), 1), ((1, (1,)), NOUGHT, 1),
            ((-1, (1,)), NOUGHT, -1), ((1, (7,)), (1, (8,)), -1), ((-1, (7,)), (-1, (8,)), 1),
            ((1, (8,)), (1, (7,)), 1), ((-1, (8,)), (-1, (7,)), -1), ((1, (7,)), (1, (7,)), 0),
            ((-1, (7,)), (-1, (7,)), 0), ((1, (7,)), (-1, (7,)), 1), ((-1, (7,)), (1, (7,)), -1),
            ((1, (1,)), (-1, (0, 1)), 1), ((-1, (0, 1)), (1, (1,)), -1), ((-1, (65535,)), (-1, (0, 1)), 1),
        ]
        for one, other, rank in rows:
            with self.subTest(one=one, other=other):
                self.assert_number(ranked(one, other), rank)

    def test_pairs(self):
        for one in SIGNED:
            for other in SIGNED:
                self.assert_ranked(one, other)

    def test_great_ones(self):
        for one in GREAT_SIDES:
            for other in GREAT_SIDES:
                self.assert_ranked(one, other)

    def test_asked_again(self):
        for one in SOME:
            for other in SOME:
                self.assert_told_alike(ranked, one, other)


class AddedTest(WholeCase):
    def assert_added(self, one, other):
        self.assert_whole(added(whole_by(one), whole_by(other)), one + other)

    def assert_taken(self, one, other):
        self.assert_whole(taken(whole_by(one), whole_by(other)), one - other)

    def test_by_hand(self):
        rows = [
            (NOUGHT, NOUGHT, NOUGHT, NOUGHT), ((1, (5,)), (1, (3,)), (1, (8,)), (1, (2,))),
            ((1, (3,)), (1, (5,)), (1, (8,)), (-1, (2,))), ((-1, (3,)), (-1, (5,)), (-1, (8,)), (1, (2,))),
            ((-1, (5,)), (-1, (3,)), (-1, (8,)), (-1, (2,))), ((1, (5,)), (-1, (3,)), (1, (2,)), (1, (8,))),
            ((1, (3,)), (-1, (5,)), (-1, (2,)), (1, (8,))), ((-1, (5,)), (1, (3,)), (-1, (2,)), (-1, (8,))),
            ((-1, (3,)), (1, (5,)), (1, (2,)), (-1, (8,))), ((1, (5,)), (1, (5,)), (1, (10,)), NOUGHT),
            ((-1, (5,)), (-1, (5,)), (-1, (10,)), NOUGHT), ((1, (5,)), (-1, (5,)), NOUGHT, (1, (10,))),
            ((-1, (5,)), (1, (5,)), NOUGHT, (-1, (10,))), (NOUGHT, (1, (5,)), (1, (5,)), (-1, (5,))),
            (NOUGHT, (-1, (5,)), (-1, (5,)), (1, (5,))), ((-1, (5,)), NOUGHT, (-1, (5,)), (-1, (5,))),
            ((1, (65535,)), (1, (1,)), (1, (0, 1)), (1, (65534,))),
            ((-1, (0, 1)), (1, (1,)), (-1, (65535,)), (-1, (1, 1))),
        ]
        for one, other, both, left in rows:
            with self.subTest(one=one, other=other):
                self.assertEqual(added(one, other), both)
                self.assertEqual(taken(one, other), left)

    def test_pairs(self):
        for one in SIGNED:
            for other in SIGNED[::3] + SIDES:
                self.assert_added(one, other)
                self.assert_taken(one, other)

    def test_alike_and_neighbours(self):
        for number in SIGNED:
            for other in (number, number - 1, number + 1, -number, -number - 1, -number + 1, 0):
                self.assert_added(number, other)
                self.assert_taken(number, other)

    def test_great_ones(self):
        for one in GREAT_SIDES:
            for other in GREAT_SIDES:
                self.assert_added(one, other)
                self.assert_taken(one, other)

    def test_asked_again(self):
        for one in SOME:
            for other in SOME:
                self.assert_told_alike(added, one, other)
                self.assert_told_alike(taken, one, other)


class MultipliedTest(WholeCase):
    def assert_multiplied(self, one, other):
        self.assert_whole(multiplied(whole_by(one), whole_by(other)), one * other)

    def test_by_hand(self):
        rows = [
            (NOUGHT, NOUGHT, NOUGHT), ((1, (6,)), (1, (7,)), (1, (42,))), ((-1, (6,)), (1, (7,)), (-1, (42,))),
            ((1, (6,)), (-1, (7,)), (-1, (42,))), ((-1, (6,)), (-1, (7,)), (1, (42,))), (NOUGHT, (-1, (7,)), NOUGHT),
            ((-1, (7,)), NOUGHT, NOUGHT), ((-1, (7, 8)), (-1, (1,)), (1, (7, 8))),
            ((-1, (7, 8)), (1, (1,)), (-1, (7, 8))),
        ]
        for one, other, product in rows:
            with self.subTest(one=one, other=other):
                self.assertEqual(multiplied(one, other), product)

    def test_pairs(self):
        for one in SIDES:
            for other in SIDES:
                self.assert_multiplied(one, other)

    def test_by_nought_and_one(self):
        for number in SIGNED + GREAT_SIDES:
            for other in (0, 1, -1):
                self.assert_multiplied(number, other)
                self.assert_multiplied(other, number)

    def test_many_limbs(self):
        one, other = mixed(200, 304), mixed(90, 305)
        for sign in (1, -1):
            for other_sign in (1, -1):
                self.assert_multiplied(sign * one, other_sign * other)

    def test_asked_again(self):
        for one in SOME:
            for other in SOME:
                self.assert_told_alike(multiplied, one, other)


class RaisedTest(WholeCase):
    def test_by_hand(self):
        rows = [
            (NOUGHT, 0, (1, (1,))), (NOUGHT, 1, NOUGHT), (NOUGHT, 2, NOUGHT), (NOUGHT, 3, NOUGHT),
            ((-1, (7,)), 0, (1, (1,))), ((-1, (7,)), 1, (-1, (7,))), ((-1, (7,)), 2, (1, (49,))),
            ((-1, (7,)), 3, (-1, (343,))), ((1, (7,)), 3, (1, (343,))), ((-1, (1,)), 1001, (-1, (1,))),
            ((-1, (256,)), 2, (1, (0, 1))), ((-1, (2,)), 17, (-1, (0, 2))),
        ]
        for whole, count, power in rows:
            with self.subTest(whole, count=count):
                self.assertEqual(raised(whole, count), power)

    def test_small_counts(self):
        for number in SIDES + either_sign(FULL):
            for count in (0, 1, 2, 3, 4, 5, 6, 7):
                self.assert_whole(raised(whole_by(number), count), number ** count)

    def test_greater_counts(self):
        for number in either_sign([1, 2, 3, 10, 255, 65535, 65536, 65537]):
            for count in [15, 16, 17, 99, 100, 127, 128, 129, 300]:
                self.assert_whole(raised(whole_by(number), count), number ** count)

    def test_nought_and_one(self):
        for count in [1, 2, 3, 16, 17, 999, 10 ** 9, 10 ** 30, 10 ** 30 + 1]:
            with self.subTest(count):
                self.assert_whole(raised(NOUGHT, count), 0)
                self.assert_whole(raised((1, (1,)), count), 1)
                self.assert_whole(raised((-1, (1,)), count), 1 - 2 * (count % 2))

    def test_to_the_power_nought_and_one(self):
        for number in SIGNED + GREAT_SIDES:
            self.assert_whole(raised(whole_by(number), 0), 1)
            self.assert_whole(raised(whole_by(number), 1), number)

    def test_a_count_below_nought_is_refused(self):
        for whole in SOME:
            for count in BELOW:
                with self.subTest(whole, count=count), self.assertRaises(NoCount):
                    raised(whole, count)
            self.assertEqual(raised(whole, 1), whole)

    def test_asked_again(self):
        for whole in SOME:
            for count in (0, 1, 2, 3):
                self.assert_told_alike(raised, whole, count)


if __name__ == "__main__":
    unittest.main()
