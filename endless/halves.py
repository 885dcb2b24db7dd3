"""Naturals parted into halves, and products that are made of the halves' products."""

from endless.bits import moved_up
from endless.errors import NoCount
from endless.limbs import BITS, trimmed
from endless.products import times
from endless.sums import minus, plus, total_of


def halves_of(natural, count):
    if count < 0:
        raise NoCount("a count of limbs is not below 0")
    return (trimmed(natural[:count]), natural[count:])


def split_by(one, other, product):
    # The way in which the three products are made is handed in: either plain, or split once more.
    half = (max(len(one), len(other)) + 1) // 2
    ours = halves_of(one, half)
    theirs = halves_of(other, half)
    low = product(ours[0], theirs[0])
    high = product(ours[1], theirs[1])
    both = product(plus(ours[0], ours[1]), plus(theirs[0], theirs[1]))
    return (half, low, minus(minus(both, low), high), high)


def split_of(one, other):
    return split_by(one, other, times)


def product_of(split):
    step = split[0] * BITS
    return total_of([split[1], moved_up(split[2], step), moved_up(split[3], 2 * step)])


def times_split(one, other, least=8):
    # Below 2 it might never end: a natural of one limb is its own first half.
    if least < 2:
        raise NoCount("the least count of limbs is not below 2")
    if min(len(one), len(other)) < least:
        return times(one, other)
    return product_of(split_by(one, other, lambda ours, theirs: times_split(ours, theirs, least)))
