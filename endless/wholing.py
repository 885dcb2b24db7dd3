"""Fractions rounded to wholes by a way."""

from endless.ways import refuse_no_way, rounded_size
from endless.wholes import signed

WAYS = ("down", "up", "zero", "away", "half_even", "half_zero", "half_away")


def nearest_whole(fraction, way="half_even"):
    refuse_no_way(way, WAYS)
    sign = fraction[0][0]
    return signed(sign, rounded_size(sign, fraction[0][1], fraction[1], way))
