"""Naturals compared, added and taken from one another, limb by limb."""

from endless.errors import BelowNought
from endless.limbs import BASE, limb_at, trimmed


def compared(one, other):
    # No natural ends in a limb 0, so the longer one is the greater one.
    if len(one) != len(other):
        return 1 if len(one) > len(other) else -1
    for place in range(len(one) - 1, -1, -1):
        if one[place] != other[place]:
            return 1 if one[place] > other[place] else -1
    return 0


def carries(one, other):
    gone_on = []
    carry = 0
    for place in range(max(len(one), len(other))):
        carry = (limb_at(one, place) + limb_at(other, place) + carry) // BASE
        gone_on.append(carry)
    return gone_on


def plus(one, other):
    # What goes on from a place comes to the next one; what goes on from the last place makes a limb of its own.
    came = [0] + carries(one, other)
    return trimmed([(limb_at(one, place) + limb_at(other, place) + carry) % BASE for place, carry in enumerate(came)])


def minus(one, other):
    if compared(one, other) < 0:
        raise BelowNought("the second natural is greater than the first")
    limbs = []
    borrow = 0
    for place, limb in enumerate(one):
        left = limb - limb_at(other, place) - borrow
        limbs.append(left % BASE)
        borrow = 1 if left < 0 else 0
    return trimmed(limbs)


def total_of(naturals):
    total = ()
    for natural in naturals:
        total = plus(total, natural)
    return total
