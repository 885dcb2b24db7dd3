"""The bits of naturals, counted from 0, that of least worth: joined, moved, looked at and counted."""

from endless.errors import NoCount
from endless.limbs import BASE, BITS, limb_at, trimmed


def and_of(one, other):
    return trimmed([limb & limb_at(other, place) for place, limb in enumerate(one)])


def or_of(one, other):
    return trimmed([limb_at(one, place) | limb_at(other, place) for place in range(max(len(one), len(other)))])


def xor_of(one, other):
    return trimmed([limb_at(one, place) ^ limb_at(other, place) for place in range(max(len(one), len(other)))])


def refuse_below_nought(count):
    if count < 0:
        raise NoCount("a count or place of bits is not below 0")


def moved_up(natural, count=1):
    refuse_below_nought(count)
    # Nought stays nought: a vast count must not lay out a vast row of noughts first.
    if len(natural) == 0:
        return ()
    limbs = [0] * (count // BITS)
    carry = 0
    for limb in natural:
        moved = (limb << (count % BITS)) + carry
        limbs.append(moved % BASE)
        carry = moved // BASE
    limbs.append(carry)
    return trimmed(limbs)


def moved_down(natural, count=1):
    refuse_below_nought(count)
    limbs = []
    for place in range(count // BITS, len(natural)):
        # The bits that drop into a limb come from the one of next greater worth.
        pair = limb_at(natural, place + 1) * BASE + natural[place]
        limbs.append((pair >> (count % BITS)) % BASE)
    return trimmed(limbs)


def bit_at(natural, place):
    refuse_below_nought(place)
    return (limb_at(natural, place // BITS) >> (place % BITS)) & 1


def bits_of(natural):
    if len(natural) == 0:
        return 0
    return (len(natural) - 1) * BITS + natural[-1].bit_length()


def ones_of(natural):
    ones = 0
    for limb in natural:
        left = limb
        while left > 0:
            ones += left & 1
            left = left >> 1
    return ones
