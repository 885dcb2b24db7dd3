"""What two naturals have in common: the greatest natural that divides both."""

from endless.division import parted


def common_of(one, other):
    quotients = []
    first = one
    second = other
    while len(second) > 0:
        pair = parted(first, second)
        quotients.append(pair[0])
        first = second
        second = pair[1]
    return (first, quotients)
