"""Numbers and a test case that the tests share; naturals are made here without the program."""

import copy
import unittest
from fractions import Fraction

SMALL = [0, 1, 2, 3, 7, 15, 16, 17, 255, 256, 257, 1000, 32767, 32768, 32769]
LIMB_EDGES = [65534, 65535, 65536, 65537, 2 * 65536 - 1, 2 * 65536, 65535 * 65536, 65536 ** 2 - 1, 65536 ** 2]


def around_powers(exponents):
    numbers = []
    for exponent in exponents:
        numbers += [2 ** exponent - 1, 2 ** exponent, 2 ** exponent + 1]
    return numbers


def mixed(limbs, seed):
    """A number of just so many limbs, always the same one for the same seed."""
    state = seed
    number = 0
    for _ in range(limbs):
        state = (state * 6364136223846793005 + 1442695040888963407) % 2 ** 64
        number = number * 65536 + (state >> 40) % 65536
    top = 65536 ** (limbs - 1)
    return number if number >= top else number + top


def sums_row(length, one=1, other=1):
    """A row in which each number is the sum of the two ahead of it."""
    row = [one, other]
    while len(row) < length:
        row.append(row[-1] + row[-2])
    return row


POWERS = around_powers([15, 16, 17, 31, 32, 33, 47, 48, 49, 64, 80, 160, 1000])
MIXED = [mixed(limbs, seed) for limbs in (1, 2, 3, 5, 8, 20) for seed in (1, 2, 3)]
NUMBERS = SMALL + LIMB_EDGES + POWERS + MIXED
GREAT = around_powers([16 * 1001, 16 * 1999, 16 * 2000 - 1]) + [mixed(1001, 4), mixed(1500, 5), mixed(2000, 6)]
GREAT.append(65536 ** 2000 - 1)
PAIRS = [(one, other) for one in NUMBERS for other in NUMBERS]
FULL = [65536 ** limbs - 1 for limbs in (1, 2, 3, 4, 5, 8, 9, 40)]
BELOW = [-1, -2, -15, -16, -17, -10 ** 30]
GREAT_PAIRS = [(one, other) for one in GREAT for other in GREAT + [0, 1, 65535, 65536]]


def either_sign(numbers):
    return sorted(set(numbers) | {-number for number in numbers})


SIGNED = either_sign(NUMBERS + FULL)


def limbs_of(number):
    length = (number.bit_length() + 15) // 16
    octets = number.to_bytes(2 * length, "little")
    return tuple(octets[2 * place] + 256 * octets[2 * place + 1] for place in range(length))


def whole_by(number):
    return ((number > 0) - (number < 0), limbs_of(abs(number)))


def fraction_by(fraction):
    return (whole_by(fraction.numerator), limbs_of(fraction.denominator))


class LikeAll:
    """What says that it is the same as anything."""

    def __eq__(self, other):
        return True

    def __hash__(self):
        return hash("down")


class LikeNothing:
    """What can't even be compared, asked for its truth or shown."""

    def refuse(self, *others):
        raise RuntimeError("not to be asked")

    __eq__ = __ne__ = __hash__ = __bool__ = __str__ = __repr__ = __len__ = refuse


NO_WAY_TEXTS = [
    "", " ", "DOWN", "Down", "UP", "ZERO", "Near", " down", "down ", "down\n", "downup", "dow", "d", "nearest", "half",
    "half_", "half_up", "half even", "HALF_EVEN", "even", "floor", "0",
]
NO_TEXTS = [
    None, 0, 1, -1, 7, 10 ** 5000, True, False, 1.5, b"down", (), ("down",), ["down"], [], {}, {"down": "down"},
    {"down"}, frozenset(["down"]), (0, ()), object(), str, LikeAll(), LikeNothing(),
]


class NaturalCase(unittest.TestCase):
    def assert_natural(self, told, number):
        """That what is told is the one natural of the number: of the right kind down to each limb."""
        self.assertIs(type(told), tuple)
        self.assertEqual({type(limb) for limb in told} - {int}, set())
        self.assertEqual(told, limbs_of(number))

    def assert_naturals(self, told, numbers):
        """That what is told is a list of the naturals of these numbers."""
        self.assertIs(type(told), list)
        self.assertEqual(len(told), len(numbers))
        for natural, number in zip(told, numbers):
            self.assert_natural(natural, number)

    def assert_number(self, told, number):
        """That what is told is the whole number, and not True or False in its place."""
        self.assertIs(type(told), int)
        # Python won't write out very great numbers, so a failure must not try to show them.
        self.assertTrue(told == number, "another number is told")

    def assert_tuple(self, told, length):
        self.assertIs(type(told), tuple)
        self.assertEqual(len(told), length)

    def assert_told_alike(self, ask, *handed):
        """That what is handed in stays as it was, and that the same is told when it is asked again."""
        kept = copy.deepcopy(handed)
        told = copy.deepcopy(ask(*handed))
        self.assertEqual(handed, kept)
        self.assertEqual(ask(*handed), told)
        self.assertEqual(ask(*kept), told)

    def assert_own_list(self, ask, list_in=lambda told: told):
        """That a list that is told is the asker's own: emptied or made longer, it is told again as it was."""
        kept = list(list_in(ask()))
        for change in (list.clear, lambda told: told.append((5,)), lambda told: told.insert(0, (5,))):
            told = list_in(ask())
            change(told)
            again = list_in(ask())
            self.assertIsNot(again, told)
            self.assertEqual(again, kept)


class WholeCase(NaturalCase):
    def assert_whole(self, told, number):
        """That what is told is the one whole of the number: of the right kind down to its sign and each limb."""
        self.assert_tuple(told, 2)
        self.assert_number(told[0], (number > 0) - (number < 0))
        self.assert_natural(told[1], abs(number))


class FractionCase(WholeCase):
    def assert_fraction(self, told, number):
        """That what is told is the one fraction of the number: of the right kind down to each limb."""
        fraction = Fraction(number)
        self.assert_tuple(told, 2)
        self.assert_whole(told[0], fraction.numerator)
        self.assert_natural(told[1], fraction.denominator)
