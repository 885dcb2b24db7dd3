"""Ways to round: what a way may be, and the natural that the size of a quotient is rounded to by it."""

from endless.bits import bit_at, moved_up
from endless.division import parted
from endless.errors import NoWay
from endless.sums import compared, plus


def refuse_no_way(way, ways):
    # Anything may be handed in as a way, so its kind is asked ahead of any comparison with it.
    if not isinstance(way, str) or way not in ways:
        raise NoWay("that is none of the ways")


def half_goes_beyond(often, way):
    if way == "half_even":
        return bit_at(often, 0) == 1
    return way == "half_away"


def goes_beyond(sign, often, left, below, way):
    # Whether the quotient is rounded to one farther from nought than its whole part; the ways by the halves come last.
    if len(left) == 0 or way == "zero":
        return False
    if way == "away":
        return True
    if way == "down":
        return sign < 0
    if way == "up":
        return sign > 0
    side = compared(moved_up(left), below)
    return side > 0 or (side == 0 and half_goes_beyond(often, way))


def rounded_size(sign, above, below, way):
    pair = parted(above, below)
    if goes_beyond(sign, pair[0], pair[1], below, way):
        return plus(pair[0], (1,))
    return pair[0]
