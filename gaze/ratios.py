"""Ratios: tuples (top, bottom) of whole numbers in lowest terms, bottom from 1 on."""

from gaze.errors import NoRatio


def greatest_divisor(one, other):
    while other != 0:
        rest = one % other
        one = other
        other = rest
    return one


def ratio(top, bottom):
    if bottom == 0:
        raise NoRatio("the second number of a ratio is 0")
    divisor = greatest_divisor(abs(top), abs(bottom))
    # Divided by a number of its own sign, bottom comes out from 1 on.
    if bottom < 0:
        divisor = -divisor
    return (top // divisor, bottom // divisor)


def plus(one, other):
    return ratio(one[0] * other[1] + other[0] * one[1], one[1] * other[1])


def minus(one, other):
    return ratio(one[0] * other[1] - other[0] * one[1], one[1] * other[1])


def times(one, other):
    return ratio(one[0] * other[0], one[1] * other[1])


def under(one, other):
    # Both bottoms are above 0, so multiplying by them keeps the order.
    return one[0] * other[1] < other[0] * one[1]


def floored(one):
    return one[0] // one[1]


def raised(one):
    # Division goes down, on both sides of nought; turned about twice it goes up.
    return -(-one[0] // one[1])
