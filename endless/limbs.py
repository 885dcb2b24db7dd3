"""Naturals: tuples of limbs from 0 to 65535, the one of least worth first, the last one not 0."""

from endless.errors import NoNatural

BITS = 16
BASE = 65536


def natural_of(number):
    if number < 0:
        # The number itself stays out of the words: Python refuses to write out a very great one.
        raise NoNatural("a number below nought is no natural")
    limbs = []
    left = number
    while left > 0:
        limbs.append(left % BASE)
        left = left // BASE
    return tuple(limbs)


def number_of(natural):
    number = 0
    for limb in reversed(natural):
        number = number * BASE + limb
    return number


def trimmed(limbs):
    length = len(limbs)
    while length > 0 and limbs[length - 1] == 0:
        length -= 1
    return tuple(limbs[:length])


def limb_at(natural, place):
    # Two naturals of unlike length are walked side by side as if the shorter one had noughts behind it.
    return natural[place] if place < len(natural) else 0
