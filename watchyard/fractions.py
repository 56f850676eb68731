"""Fractions: tuples (top, bottom) in lowest terms, the bottom from 1 on."""

from watchyard.errors import NoFraction


def is_whole(thing):
    # Python counts True and False among the ints; here they are truths alone.
    return isinstance(thing, int) and not isinstance(thing, bool)


def common_divisor(number, above_nought):
    # A rest by a number above 0 is never below 0, so the answer is above 0
    # whatever the sign of the first number.
    one = number
    other = above_nought
    while other != 0:
        rest = one % other
        one = other
        other = rest
    return one


def is_fraction(thing):
    if not isinstance(thing, tuple) or len(thing) != 2:
        return False
    if not is_whole(thing[0]) or not is_whole(thing[1]):
        return False
    return thing[1] >= 1 and common_divisor(thing[0], thing[1]) == 1


def fraction(top, bottom=1):
    # The refusals don't show what was handed in: it may be anything, also
    # something that can't be shown.
    if not is_whole(top) or not is_whole(bottom):
        raise NoFraction("a fraction is made of two whole numbers")
    if bottom == 0:
        raise NoFraction("the bottom of a fraction is not 0")
    if bottom < 0:
        return lowest(-top, -bottom)
    return lowest(top, bottom)


def lowest(top, bottom):
    divisor = common_divisor(top, bottom)
    return (top // divisor, bottom // divisor)


def plus(one, other):
    return lowest(one[0] * other[1] + other[0] * one[1], one[1] * other[1])


def minus(one, other):
    return lowest(one[0] * other[1] - other[0] * one[1], one[1] * other[1])


def times(one, other):
    return lowest(one[0] * other[0], one[1] * other[1])


def less(one, other):
    return one[0] * other[1] < other[0] * one[1]


def floor_of(one):
    return one[0] // one[1]
