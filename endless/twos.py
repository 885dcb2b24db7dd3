"""The bits of wholes, those below nought with 1 behind them without end: joined, turned and moved."""

from endless.bits import and_of, moved_down, moved_up, or_of, xor_of
from endless.limbs import BASE
from endless.wholes import signed, sized, taken


def inverted(whole):
    # A whole and the one with each bit turned come to the one whose bits are all 1, which is -1.
    return taken((-1, (1,)), whole)


def bits_turned(natural, length):
    return xor_of(natural, (BASE - 1,) * length)


def lowest_bits(whole, length):
    if whole[0] < 0:
        return bits_turned(sized(inverted(whole)), length)
    return sized(whole)


def whole_by(bits, length):
    # The last one of so many limbs is either 0 or full: it is the first of those without end.
    if len(bits) < length:
        return signed(1, bits)
    return inverted(signed(1, bits_turned(bits, length)))


def joined(one, other, joint):
    # One limb more than either has, so that the last one shows what stands behind without end.
    length = max(len(one[1]), len(other[1])) + 1
    return whole_by(joint(lowest_bits(one, length), lowest_bits(other, length)), length)


def whole_and(one, other):
    return joined(one, other, and_of)


def whole_or(one, other):
    return joined(one, other, or_of)


def whole_xor(one, other):
    return joined(one, other, xor_of)


def shifted(whole, count):
    if count >= 0:
        return (whole[0], moved_up(whole[1], count))
    if whole[0] < 0:
        # With each bit turned it is not below nought; turned back, the bits that come from above are 1.
        return inverted(shifted(inverted(whole), count))
    return signed(1, moved_down(whole[1], -count))
