import unittest

from endless.errors import NoNatural
from endless.limbs import BASE, BITS, natural_of, number_of, trimmed
from tests.samples import GREAT, NUMBERS, NaturalCase, limbs_of, mixed


class LimbsTest(NaturalCase):
    def test_the_names_of_the_interface(self):
        self.assert_number(BITS, 16)
        self.assert_number(BASE, 65536)

    def test_naturals_that_the_document_shows(self):
        for number, natural in [(0, ()), (7, (7,)), (65536, (0, 1))]:
            with self.subTest(number):
                self.assertEqual(natural_of(number), natural)
                self.assert_number(number_of(natural), number)

    def test_naturals_round_one_limb(self):
        for number, natural in [(65535, (65535,)), (65537, (1, 1)), (65536 * 65536, (0, 0, 1))]:
            with self.subTest(number):
                self.assertEqual(natural_of(number), natural)
                self.assert_number(number_of(natural), number)

    def test_there_and_back(self):
        for place, number in enumerate(NUMBERS + GREAT):
            with self.subTest(place):
                self.assert_natural(natural_of(number), number)
                self.assert_number(number_of(limbs_of(number)), number)
                self.assert_number(number_of(natural_of(number)), number)

    def test_two_thousand_limbs(self):
        number = mixed(2000, 9)
        self.assertEqual(len(natural_of(number)), 2000)
        self.assert_number(number_of(natural_of(number)), number)

    def test_below_nought_is_refused(self):
        for number in [-1, -2, -65535, -65536, -65537, -2 ** 64]:
            with self.subTest(number), self.assertRaises(NoNatural):
                natural_of(number)

    def test_far_below_nought_is_refused(self):
        for place, number in enumerate(GREAT):
            with self.subTest(place), self.assertRaises(NoNatural):
                natural_of(-number)


class TrimmedTest(NaturalCase):
    ROWS = [
        ([], ()),
        ([0], ()),
        ([0, 0, 0], ()),
        ([7], (7,)),
        ([7, 0], (7,)),
        ([7, 0, 0, 0], (7,)),
        ([0, 7], (0, 7)),
        ([0, 0, 7, 0, 0], (0, 0, 7)),
        ([1, 0, 2, 0, 3], (1, 0, 2, 0, 3)),
        ([65535, 0, 65535, 0], (65535, 0, 65535)),
        ([0] * 1500 + [1] + [0] * 499, (0,) * 1500 + (1,)),
        ([0] * 2000, ()),
    ]

    def test_of_lists_and_of_tuples(self):
        for place, (limbs, natural) in enumerate(self.ROWS):
            for handed in (list(limbs), tuple(limbs)):
                with self.subTest(place, kind=type(handed).__name__):
                    told = trimmed(handed)
                    self.assertIs(type(told), tuple)
                    self.assertEqual(told, natural)

    def test_a_list_stays_as_it_was(self):
        for place, (limbs, natural) in enumerate(self.ROWS):
            with self.subTest(place):
                handed = list(limbs)
                trimmed(handed)
                self.assertEqual(handed, limbs)

    def test_a_list_changed_later_changes_nothing_told(self):
        handed = [1, 2, 0]
        told = trimmed(handed)
        handed[0] = 9
        self.assertEqual(told, (1, 2))


if __name__ == "__main__":
    unittest.main()
