"""Tables: lists of lists of bounds, each for the value of one thing less that of another; thing 0 has the value 0."""

from watchyard.bounds import keeps, tighter_of
from watchyard.fractions import fraction, minus


def open_table(k):
    return [[None] * (k + 1) for thing in range(k + 1)]


def copied(table):
    return [list(bounds) for bounds in table]


def narrowed(table, i, j, bound):
    told = copied(table)
    told[i][j] = tighter_of(table[i][j], bound)
    return told


def lies_in(table, point):
    values = [fraction(0)] + point
    for i in range(len(table)):
        for j in range(len(table)):
            if not keeps(minus(values[i], values[j]), table[i][j]):
                return False
    return True
