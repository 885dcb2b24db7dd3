"""Products and powers of naturals, and the rows that a product is the sum of."""

from endless.bits import moved_up
from endless.errors import NoCount
from endless.limbs import BASE, BITS, trimmed


def carried(columns):
    # A column may hold more than a limb: what is beyond one goes on to the next place.
    limbs = []
    carry = 0
    for column in columns:
        here = column + carry
        limbs.append(here % BASE)
        carry = here // BASE
    return trimmed(limbs)


def times_limb(natural, limb):
    # The 0 behind the columns is room for what goes on from the last one.
    return carried([each * limb for each in natural] + [0])


def times(one, other):
    columns = [0] * (len(one) + len(other))
    for place, limb in enumerate(other):
        for offset, each in enumerate(one):
            columns[place + offset] += each * limb
    return carried(columns)


def squared(natural):
    return times(natural, natural)


def power_of(natural, count):
    if count < 0:
        raise NoCount("the count of a power is not below 0")
    # By the count's bits from the highest one on, so nothing greater than the power itself is ever made.
    power = (1,)
    for place in range(count.bit_length() - 1, -1, -1):
        power = squared(power)
        if (count >> place) & 1 == 1:
            power = times(power, natural)
    return power


def rows_of(one, other):
    return [moved_up(times_limb(one, limb), place * BITS) for place, limb in enumerate(other)]
