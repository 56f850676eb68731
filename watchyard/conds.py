"""Conditions: what a watch shows, or a box holds, against a whole number."""

from watchyard.fractions import fraction, less


class Cond:
    def __init__(self, number, sign, against):
        self.number = number
        self.sign = sign
        self.against = against


class WatchCond(Cond):
    def holds(self, boxes, times):
        return stands(times[self.number], self.sign, fraction(self.against))


class BoxCond(Cond):
    def holds(self, boxes, times):
        return stands(fraction(boxes[self.number]), self.sign, fraction(self.against))


def stands(one, sign, other):
    if sign == "<":
        return less(one, other)
    if sign == "<=":
        return not less(other, one)
    if sign == "==":
        return one == other
    if sign == "!=":
        return one != other
    if sign == ">=":
        return not less(one, other)
    return less(other, one)


def cond_again(cond):
    if isinstance(cond, WatchCond):
        return WatchCond(cond.number, cond.sign, cond.against)
    return BoxCond(cond.number, cond.sign, cond.against)
