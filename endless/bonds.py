"""What two wholes have in common, as so many times the first and so many times the second."""

from endless.commons import common_of
from endless.wholes import multiplied, signed, taken, turned

NOUGHT = (0, ())
ONE = (1, (1,))


def bond_by(quotients, first, second):
    # How often one of the two is in each number that is left on the way: the last of these is nought, and the one
    # ahead of it is the greatest that divides both.
    earlier = first
    now = second
    for quotient in quotients:
        later = taken(earlier, multiplied(now, signed(1, quotient)))
        earlier = now
        now = later
    return earlier


def by_sign(whole, bond):
    # The quotients are those of the sizes, so a whole below nought turns its bond.
    return turned(bond) if whole[0] < 0 else bond


def bonds_of(one, other):
    common = common_of(one[1], other[1])
    of_one = by_sign(one, bond_by(common[1], ONE, NOUGHT))
    of_other = by_sign(other, bond_by(common[1], NOUGHT, ONE))
    return (signed(1, common[0]), of_one, of_other)
