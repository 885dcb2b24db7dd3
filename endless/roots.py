"""What is left of a power, and roots of naturals with what is left beside them."""

from endless.bits import bit_at, bits_of, moved_down, moved_up
from endless.division import parted, parted_limb
from endless.errors import NoCount
from endless.products import power_of, squared, times, times_limb
from endless.sums import compared, minus, plus

MOST = 64


def power_rest(natural, count, other):
    first = parted(natural, other)[1]
    # Even to the power 0 something is left only where the third one is not 1.
    rest = parted((1,), other)[1]
    # What is left is taken at each step, so that nothing much longer than the third one is ever made.
    for place in range(bits_of(count) - 1, -1, -1):
        rest = parted(squared(rest), other)[1]
        if bit_at(count, place) == 1:
            rest = parted(times(rest, first), other)[1]
    return rest


def next_guess(natural, count, guess):
    # Newton's step: from whatever guess but nought, it never tells one below the root.
    often = parted(natural, power_of(guess, count - 1))[0]
    return parted_limb(plus(times_limb(guess, count - 1), often), count)[0]


def lowered(natural, count, guess):
    # From above the root each step goes down, so the first one that does not has come to it.
    root = guess
    lower = next_guess(natural, count, root)
    while compared(lower, root) < 0:
        root = lower
        lower = next_guess(natural, count, root)
    return root


def root_alone(natural, count):
    bits = bits_of(natural)
    # Less than two to the power of the count: no root but nought and one.
    if bits <= count:
        return (1,) if bits > 0 else ()
    # The root of the highest bits, one more, stands so close above the whole root that few steps are left.
    dropped = (bits + count - 1) // count // 2
    high = root_alone(moved_down(natural, dropped * count), count)
    return lowered(natural, count, moved_up(plus(high, (1,)), dropped))


def root_of(natural, count=2):
    if count < 1 or count > MOST:
        raise NoCount("the count of a root is from 1 to 64")
    root = root_alone(natural, count)
    return (root, minus(natural, power_of(root, count)))
