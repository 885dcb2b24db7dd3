"""Fractions: pairs of a whole above and a natural below that is not nought, in lowest terms."""

from endless.commons import common_of
from endless.division import parted, refuse_nought
from endless.products import power_of, times
from endless.wholes import added, multiplied, raised, ranked, signed, turned


def fraction_of(above, below=None):
    if below is None:
        return (above, (1,))
    refuse_nought(below[1])
    common = common_of(above[1], below[1])[0]
    return (signed(above[0] * below[0], parted(above[1], common)[0]), parted(below[1], common)[0])


def across(one, other):
    # The upper number that the first has when it stands above the product of both lower ones.
    return multiplied(one[0], (1, other[1]))


def flipped(fraction):
    refuse_nought(fraction[0][1])
    return ((fraction[0][0], fraction[1]), fraction[0][1])


def frac_plus(one, other):
    return fraction_of(added(across(one, other), across(other, one)), (1, times(one[1], other[1])))


def frac_minus(one, other):
    return frac_plus(one, (turned(other[0]), other[1]))


def frac_times(one, other):
    return fraction_of(multiplied(one[0], other[0]), (1, times(one[1], other[1])))


def frac_over(one, other):
    return frac_times(one, flipped(other))


def frac_ranked(one, other):
    return ranked(across(one, other), across(other, one))


def frac_power(fraction, count):
    if count < 0:
        return frac_power(flipped(fraction), -count)
    # What no natural but 1 divides both of, no natural but 1 divides both powers of.
    return (raised(fraction[0], count), power_of(fraction[1], count))
