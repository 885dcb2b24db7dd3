"""Wholes: pairs of a sign and a natural, the sign 1, or -1 below nought, and 0 of nought alone."""

from endless.limbs import natural_of, number_of
from endless.products import power_of, times
from endless.sums import compared, minus, plus


def signed(sign, natural):
    # Nought has one form alone, whatever the sign was to be.
    return (sign, natural) if len(natural) > 0 else (0, ())


def whole_of(number):
    return signed(1 if number > 0 else -1, natural_of(abs(number)))


def value_of(whole):
    return whole[0] * number_of(whole[1])


def turned(whole):
    return (-whole[0], whole[1])


def sized(whole):
    return whole[1]


def ranked(one, other):
    if one[0] != other[0]:
        return 1 if one[0] > other[0] else -1
    # Of two below nought the one of greater size is the lesser one.
    return one[0] * compared(one[1], other[1])


def added(one, other):
    if one[0] == other[0]:
        return signed(one[0], plus(one[1], other[1]))
    # Of unlike signs, that of the greater size stays; nought is less than any other size, so the other one stays.
    if compared(one[1], other[1]) < 0:
        return signed(other[0], minus(other[1], one[1]))
    return signed(one[0], minus(one[1], other[1]))


def taken(one, other):
    return added(one, turned(other))


def multiplied(one, other):
    return (one[0] * other[0], times(one[1], other[1]))


def raised(whole, count):
    # An even power is never below nought.
    sign = whole[0] if count % 2 == 1 else 1
    return signed(sign, power_of(whole[1], count))
