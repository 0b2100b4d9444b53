"""Whole numbers, fractions, and the point where a place lies."""

from nearland.errors import NoNumber


def is_whole(thing):
    # To Python True and False are ints too.
    return isinstance(thing, int) and not isinstance(thing, bool)


def sign(number):
    if number > 0:
        return 1
    if number < 0:
        return -1
    return 0


def common_divisor(one, other):
    great = abs(one)
    small = abs(other)
    while small != 0:
        rest = great % small
        great = small
        small = rest
    return great


def fraction(top, bottom):
    if bottom == 0:
        raise NoNumber("nothing can be divided by 0")
    # With the bottom's sign in the divisor, the bottom comes out above 0.
    divisor = common_divisor(top, bottom) * sign(bottom)
    return (top // divisor, bottom // divisor)


def less(one, other):
    # Both bottoms are above 0, so that they can be multiplied away.
    return one[0] * other[1] < other[0] * one[1]


def point_of(p):
    return ((p[0], 1), (p[1], 1))
