import unittest

from endless.errors import BelowNought
from endless.sums import carries, compared, minus, plus, total_of
from tests.samples import GREAT, GREAT_PAIRS, NUMBERS, PAIRS, NaturalCase, limbs_of, mixed


def carries_between(one, other):
    """What goes on from each place, told from the numbers below that place's end."""
    length = max(len(limbs_of(one)), len(limbs_of(other)))
    ends = [65536 ** (place + 1) for place in range(length)]
    return [1 if one % end + other % end >= end else 0 for end in ends]


class ComparedTest(NaturalCase):
    def test_by_hand(self):
        rows = [
            ((), (), 0), ((), (1,), -1), ((1,), (), 1), ((7,), (7,), 0), ((7,), (8,), -1),
            ((65535,), (0, 1), -1), ((0, 1), (65535,), 1), ((0, 0, 1), (65535, 65535), 1),
            ((1, 5, 9), (2, 5, 9), -1), ((2, 5, 9), (1, 5, 9), 1),
            ((9, 5, 1), (1, 5, 2), -1), ((1, 5, 2), (9, 5, 1), 1),
            ((9, 1, 5), (1, 2, 5), -1), ((1, 2, 5), (9, 1, 5), 1),
        ]
        for one, other, order in rows:
            with self.subTest(one=one, other=other):
                self.assert_number(compared(one, other), order)

    def test_pairs(self):
        for one, other in PAIRS:
            self.assert_number(compared(limbs_of(one), limbs_of(other)), (one > other) - (one < other))

    def test_great_pairs(self):
        for one, other in GREAT_PAIRS:
            self.assert_number(compared(limbs_of(one), limbs_of(other)), (one > other) - (one < other))

    def test_differing_in_one_limb_alone(self):
        number = 65536 ** 1200 * 5 + mixed(1200, 7)
        for place in (0, 1, 600, 1200):
            with self.subTest(place):
                natural = limbs_of(number)
                other = limbs_of(number + 65536 ** place)
                self.assert_number(compared(natural, other), -1)
                self.assert_number(compared(other, natural), 1)


class PlusTest(NaturalCase):
    def test_by_hand(self):
        rows = [
            ((), (), ()), ((), (7,), (7,)), ((7,), (), (7,)), ((3,), (4,), (7,)),
            ((65535,), (1,), (0, 1)), ((1,), (65535,), (0, 1)), ((65535,), (65535,), (65534, 1)),
            ((1, 2, 3), (4,), (5, 2, 3)), ((65535, 65535), (1,), (0, 0, 1)),
        ]
        for one, other, whole in rows:
            with self.subTest(one=one, other=other):
                self.assertEqual(plus(one, other), whole)

    def test_pairs(self):
        for one, other in PAIRS:
            self.assert_natural(plus(limbs_of(one), limbs_of(other)), one + other)

    def test_great_pairs(self):
        for one, other in GREAT_PAIRS:
            self.assert_natural(plus(limbs_of(one), limbs_of(other)), one + other)

    def test_a_carry_through_many_limbs(self):
        full = (65535,) * 1500
        self.assertEqual(plus(full, (1,)), (0,) * 1500 + (1,))
        self.assertEqual(plus((1,), full), (0,) * 1500 + (1,))
        self.assertEqual(plus(full, full), (65534,) + (65535,) * 1499 + (1,))


class MinusTest(NaturalCase):
    def test_by_hand(self):
        rows = [
            ((), (), ()), ((7,), (), (7,)), ((7,), (7,), ()), ((7,), (3,), (4,)),
            ((0, 1), (1,), (65535,)), ((0, 0, 1), (1,), (65535, 65535)), ((5, 2, 3), (4,), (1, 2, 3)),
            ((1, 2, 3), (0, 2, 3), (1,)), ((0, 5, 1), (0, 6), (0, 65535)),
        ]
        for one, other, left in rows:
            with self.subTest(one=one, other=other):
                self.assertEqual(minus(one, other), left)

    def assert_minus(self, one, other):
        if one < other:
            with self.assertRaises(BelowNought):
                minus(limbs_of(one), limbs_of(other))
        else:
            self.assert_natural(minus(limbs_of(one), limbs_of(other)), one - other)

    def test_pairs(self):
        for one, other in PAIRS:
            self.assert_minus(one, other)

    def test_great_pairs(self):
        for one, other in GREAT_PAIRS:
            self.assert_minus(one, other)
            self.assert_minus(other, one)

    def test_a_borrow_through_many_limbs(self):
        self.assertEqual(minus((0,) * 1500 + (1,), (1,)), (65535,) * 1500)
        self.assertEqual(minus((0,) * 1500 + (2,), (65535,)), (1,) + (65535,) * 1499 + (1,))

    def test_a_second_that_is_greater_is_refused(self):
        rows = [
            ((), (1,)), ((7,), (8,)), ((65535,), (0, 1)), ((9, 5, 1), (1, 5, 2)), ((1, 5, 9), (2, 5, 9)),
            ((), (0, 0, 1)), ((65535,) * 1500, (0,) * 1500 + (1,)),
        ]
        for place, (one, other) in enumerate(rows):
            with self.subTest(place), self.assertRaises(BelowNought):
                minus(one, other)


class TotalTest(NaturalCase):
    ROWS = [
        [], [0], [0, 0, 0], [7], [65536], [3, 4], [65535, 1], [1, 65535, 65536 ** 2 - 1],
        [65535] * 10, [65536 ** 3 - 1] * 5, [5, 0, 5, 0, 5], NUMBERS, GREAT, [GREAT[-1]] * 3,
    ]

    def test_rows(self):
        for place, numbers in enumerate(self.ROWS):
            with self.subTest(place):
                self.assert_natural(total_of([limbs_of(number) for number in numbers]), sum(numbers))

    def test_nought_of_none(self):
        self.assertEqual(total_of([]), ())

    def test_the_same_one_several_times(self):
        natural = (65535, 65535)
        self.assertEqual(total_of([natural, natural, natural]), (65533, 65535, 2))

    def test_the_list_stays_as_it_was(self):
        for place, numbers in enumerate(self.ROWS):
            with self.subTest(place):
                naturals = [limbs_of(number) for number in numbers]
                kept = list(naturals)
                total_of(naturals)
                self.assertEqual(naturals, kept)


class CarriesTest(NaturalCase):
    def assert_carries(self, one, other, row):
        told = carries(one, other)
        self.assertIs(type(told), list)
        self.assertEqual({type(carry) for carry in told} - {int}, set())
        self.assertEqual(told, row)

    def test_by_hand(self):
        rows = [
            ((), (), []), ((), (7,), [0]), ((7,), (), [0]), ((1, 2, 3), (), [0, 0, 0]),
            ((65535,), (1,), [1]), ((65534,), (1,), [0]), ((65535,), (65535,), [1]),
            ((65535, 65535, 5), (1,), [1, 1, 0]), ((1,), (65535, 65535, 5), [1, 1, 0]),
            ((65535, 65535), (1,), [1, 1]), ((0, 65535), (1, 65535), [0, 1]),
            ((65535, 65534, 65535), (1, 0, 1), [1, 0, 1]), ((32768, 32767), (32768, 32768), [1, 1]),
        ]
        for one, other, row in rows:
            with self.subTest(one=one, other=other):
                self.assert_carries(one, other, row)

    def test_pairs(self):
        for one, other in PAIRS:
            self.assert_carries(limbs_of(one), limbs_of(other), carries_between(one, other))

    def test_many_limbs(self):
        full = (65535,) * 1500
        self.assert_carries(full, (1,), [1] * 1500)
        self.assert_carries((), full, [0] * 1500)
        self.assert_carries((65535, 0) * 700 + (65535,), (1,) * 1401, [1, 0] * 700 + [1])

    def test_unlike_great_ones(self):
        one = mixed(400, 11)
        other = mixed(300, 12)
        self.assert_carries(limbs_of(one), limbs_of(other), carries_between(one, other))
        self.assert_carries(limbs_of(other), limbs_of(one), carries_between(one, other))

    def test_a_list_made_longer_is_told_again_as_it_was(self):
        for one, other in [((), ()), ((7,), ()), ((65535, 65535), (1,))]:
            with self.subTest(one=one, other=other):
                told = carries(one, other)
                kept = list(told)
                told.append(5)
                again = carries(one, other)
                self.assertIsNot(again, told)
                self.assertEqual(again, kept)


if __name__ == "__main__":
    unittest.main()
