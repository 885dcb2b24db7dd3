"""Wholes divided by one another, the quotient rounded by a way, and the rest that it leaves."""

from endless.ways import refuse_no_way, rounded_size
from endless.wholes import multiplied, signed, taken

WAYS = ("down", "up", "zero", "near")


def divided(one, other, way="down"):
    refuse_no_way(way, WAYS)
    sign = one[0] * other[0]
    quotient = signed(sign, rounded_size(sign, one[1], other[1], "half_even" if way == "near" else way))
    return (quotient, taken(one, multiplied(quotient, other)))
