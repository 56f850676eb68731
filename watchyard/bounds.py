"""Bounds: None, or tuples (number, strict), a whole number and a truth."""

from watchyard.fractions import fraction, less


def keeps(part, bound):
    if bound is None:
        return True
    limit = fraction(bound[0])
    if bound[1]:
        return less(part, limit)
    return not less(limit, part)


def tighter(one, other):
    if one is None:
        return False
    if other is None:
        return True
    if one[0] != other[0]:
        return one[0] < other[0]
    return one[1] and not other[1]


def bound_sum(one, other):
    if one is None or other is None:
        return None
    return (one[0] + other[0], one[1] or other[1])


def tighter_of(one, other):
    if tighter(other, one):
        return other
    return one
