"""Fractions as chains of wholes, and the fractions that come close to another one along its chain."""

from endless.commons import common_of
from endless.division import parted
from endless.errors import ByNought, NoChain
from endless.fractions import across
from endless.products import times
from endless.quotients import divided
from endless.sums import compared, minus, plus
from endless.wholes import added, multiplied, signed, taken

# What stands ahead of the first approach, nought by one and one by nought, so that it comes as all the others do.
EARLIEST = ((0, ()), (1,))
AHEAD = ((1, (1,)), ())


def chain_of(fraction):
    pair = divided(fraction[0], (1, fraction[1]))
    return [pair[0]] + [(1, quotient) for quotient in common_of(fraction[1], pair[1][1])[1]]


def later_of(earlier, now, whole):
    # It comes in lowest terms: its numbers times those of the one ahead, crosswise, always differ by 1.
    return (added(multiplied(now[0], whole), earlier[0]), plus(times(now[1], whole[1]), earlier[1]))


def refuse_no_chain(wholes):
    if len(wholes) == 0:
        raise NoChain("a chain has one whole at least")
    for whole in wholes[1:]:
        if whole[0] < 1:
            raise NoChain("all wholes of a chain but the first are one or more")


def unchained(wholes):
    refuse_no_chain(wholes)
    earlier = EARLIEST
    now = AHEAD
    for whole in wholes:
        later = later_of(earlier, now, whole)
        earlier = now
        now = later
    return now


def approaches(fraction):
    row = [EARLIEST, AHEAD]
    for whole in chain_of(fraction):
        row.append(later_of(row[-2], row[-1], whole))
    return row[2:]


def last_two(fraction, most):
    # The chain is made only as far as it is needed: the whole of it may be far longer.
    above = fraction[0]
    below = (1, fraction[1])
    earlier = EARLIEST
    now = AHEAD
    pair = divided(above, below)
    later = later_of(earlier, now, pair[0])
    while compared(later[1], most) <= 0:
        earlier = now
        now = later
        above = below
        below = pair[1]
        pair = divided(above, below)
        later = later_of(earlier, now, pair[0])
    return (earlier, now)


def gap_of(fraction, one, other):
    # How far the first of two is from the fraction, times all three lower numbers: so two gaps compare as naturals.
    return times(taken(across(fraction, one), across(one, fraction))[1], other[1])


def closest(fraction, most):
    if len(most) == 0:
        raise ByNought("no fraction has a lower number from one to nought")
    if compared(fraction[1], most) <= 0:
        return fraction
    pair = last_two(fraction, most)
    now = pair[1]
    often = parted(minus(most, pair[0][1]), now[1])[0]
    aside = later_of(pair[0], now, signed(1, often))
    # The fraction lies between these two, and no other one that may be told does. Where both are as near, the last
    # approach has the lesser lower number, or both have one and it is the lesser of the two.
    return aside if compared(gap_of(fraction, aside, now), gap_of(fraction, now, aside)) < 0 else now
