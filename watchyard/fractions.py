"""Fractions: tuples (top, bottom) in lowest terms, the bottom from 1 on."""

from watchyard.errors import NoFraction


def is_whole(thing):
    # Python counts True and False among the ints; here they are truths alone.
    return isinstance(thing, int) and not isinstance(thing, bool)


def common_divisor(number, above_nought):
    # A rest by a number above 0 is never below 0, so the answer is above 0
    # whatever the sign of the first number.
    one = number
    other = above_nought
    while other != 0:
        rest = one % other
        one = other
        other = rest
    return one


def is_fraction(thing):
    if not isinstance(thing, tuple) or len(thing) != 2:
        return False
    if not is_whole(thing[0]) or not is_whole(thing[1]):
        return False
    return thing[1] >= 1 and common_divisor(thing[0], thing[1]) == 1


def fraction(top, bottom=1):
    # The refusals don't show what was handed in: it may be anything, also
    # something that can't be shown.
    if not is_whole(top) or not is_whole(bottom):
        raise NoFraction("a fraction is made of two whole numbers")
    if bottom == 0:
        raise NoFraction("the bottom of a fraction is not 0")
    if bottom < 0:
        return lowest(-top, -bottom)
    return lowest(top, bottom)


def lowest(top, bottom):
    divisor = common_divisor(top, bottom)
    return (top // divisor, bottom // divisor)


def plus(one, other):
    return summed(one, other[0], other[1])


def minus(one, other):
    return summed(one, -other[0], other[1])


def summed(one, top, bottom):
    # Only what both bottoms share can be left over to cancel. So the divisors
    # are of the smaller numbers, also where the sum of a long run has grown great.
    shared = common_divisor(one[1], bottom)
    part = one[1] // shared
    total = one[0] * (bottom // shared) + top * part
    left = common_divisor(total, shared)
    return (total // left, part * (bottom // left))


def times(one, other):
    # Each top can share something with the other one's bottom alone.
    first = common_divisor(one[0], other[1])
    second = common_divisor(other[0], one[1])
    return (one[0] // first * (other[0] // second), one[1] // second * (other[1] // first))


def less(one, other):
    return one[0] * other[1] < other[0] * one[1]


def floor_of(one):
    return one[0] // one[1]
