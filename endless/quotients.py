"""Wholes divided by one another, the quotient rounded by a way, and the rest that it leaves."""

from endless.bits import bit_at, moved_up
from endless.division import parted
from endless.errors import NoWay
from endless.sums import compared, plus
from endless.wholes import multiplied, signed, taken

WAYS = ("down", "up", "zero", "near")


def refuse_no_way(way):
    # Anything may be handed in as a way, so its kind is asked ahead of any comparison with it.
    if not isinstance(way, str) or way not in WAYS:
        raise NoWay("a way is down, up, zero or near")


def goes_beyond(sign, often, left, size, way):
    # Whether the quotient lies one farther from nought than its whole part.
    if way == "near":
        side = compared(moved_up(left), size)
        return side > 0 or (side == 0 and bit_at(often, 0) == 1)
    if way == "zero" or len(left) == 0:
        return False
    return sign < 0 if way == "down" else sign > 0


def divided(one, other, way="down"):
    refuse_no_way(way)
    pair = parted(one[1], other[1])
    sign = one[0] * other[0]
    often = pair[0]
    if goes_beyond(sign, often, pair[1], other[1], way):
        often = plus(often, (1,))
    quotient = signed(sign, often)
    return (quotient, taken(one, multiplied(quotient, other)))
