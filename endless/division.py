"""Naturals divided by a limb and by one another, limb by limb from the highest one on."""

from endless.errors import ByNought
from endless.limbs import BASE, number_of, trimmed
from endless.products import times_limb
from endless.sums import compared, minus


def parted_limb(natural, limb):
    if limb == 0:
        raise ByNought("no natural is divided by the limb 0")
    limbs = []
    left = 0
    for each in reversed(natural):
        dividend = left * BASE + each
        limbs.append(dividend // limb)
        left = dividend % limb
    limbs.reverse()
    return (trimmed(limbs), left)


def refuse_nought(natural):
    if len(natural) == 0:
        raise ByNought("no natural is divided by nought")


def step_of(dividend, other):
    # The second one's two highest limbs, and what stands above their places, tell how often it goes in, or one too
    # often, as the dividend is less than the second one times BASE.
    low = max(len(other) - 2, 0)
    often = min(number_of(dividend[low:]) // number_of(other[low:]), BASE - 1)
    product = times_limb(other, often)
    if compared(product, dividend) > 0:
        often -= 1
        product = minus(product, other)
    return (often, minus(dividend, product))


def steps_through(limbs, left, other):
    steps = []
    rest = left
    for limb in reversed(limbs):
        step = step_of(trimmed((limb,) + rest), other)
        steps.append(step)
        rest = step[1]
    return steps


def steps_of(one, other):
    refuse_nought(other)
    return steps_through(one, (), other)


def parted(one, other):
    refuse_nought(other)
    # The highest limbs, one fewer than the second one has, are less than it: the steps through them would tell 0.
    cut = max(len(one) - len(other) + 1, 0)
    steps = steps_through(one[:cut], one[cut:], other)
    if len(steps) == 0:
        return ((), one)
    return (trimmed([step[0] for step in reversed(steps)]), steps[-1][1])
