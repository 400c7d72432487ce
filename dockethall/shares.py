"""Fractions: tuples (top, bottom) of whole numbers in lowest terms, bottom from 1 on."""

from dockethall.errors import NoShare


def is_whole(thing):
    return isinstance(thing, int) and not isinstance(thing, bool)


def is_within(thing, least, most):
    return is_whole(thing) and least <= thing <= most


def greatest_divisor(one, other):
    """Of two numbers from 0 on; each number divides 0, so of 0 and another one it is the other one."""
    while other != 0:
        rest = one % other
        one = other
        other = rest
    return one


def share(top, bottom=1):
    if not is_whole(top) or not is_whole(bottom) or bottom == 0:
        raise NoShare("a fraction is made of two whole numbers, the second not 0")
    divisor = greatest_divisor(abs(top), abs(bottom))
    if bottom < 0:
        # Dividing both by a number below 0 brings the sign to the top.
        divisor = -divisor
    return (top // divisor, bottom // divisor)


def added(one, other):
    return share(one[0] * other[1] + other[0] * one[1], one[1] * other[1])


def taken(one, other):
    return share(one[0] * other[1] - other[0] * one[1], one[1] * other[1])


def timed(one, other):
    return share(one[0] * other[0], one[1] * other[1])


def parted(one, other):
    """One by other; by 0 the bottom comes to 0, which share refuses."""
    return share(one[0] * other[1], one[1] * other[0])


def under(one, other):
    return one[0] * other[1] < other[0] * one[1]


def floor_of(one):
    return one[0] // one[1]
