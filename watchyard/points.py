"""Points: lists of fractions, the values of a table's things from 1 on."""

from watchyard.closing import closed
from watchyard.errors import NoPoint
from watchyard.fractions import fraction, less, minus, plus, times


def point_of(table):
    return filled(closed_or_refused(table), {0: fraction(0)})


def far_point(table, i, j, e):
    bounds = closed_or_refused(table)
    values = {j: fraction(0)}
    # Of a thing less itself the bound is (0, False), so j stays at 0 if i is j.
    values[i] = far_value(bounds[i][j], bounds[j][i], e)
    return filled(bounds, values)


def closed_or_refused(table):
    answer = closed(table)
    if answer[0] == "ring":
        raise NoPoint("a table with a ring has no point")
    return answer[1]


def far_value(bound, back, e):
    lows = [] if back is None else [fraction(-back[0])]
    if bound is None:
        return between(greatest(lows + [fraction(e[1], e[0])]), None)
    high = fraction(bound[0])
    if bound[1]:
        return between(greatest(lows + [minus(high, e)]), high)
    return high


def filled(bounds, values):
    # In a closed table whatever values some things have, if they keep the
    # bounds among themselves, there is a value for each further thing.
    placed = dict(values)
    for thing in range(len(bounds)):
        if thing not in placed:
            placed[thing] = value_beside(bounds, placed, thing)
    # Bounds speak of differences alone: thing 0 comes to 0 if all are shifted.
    return [minus(placed[thing], placed[0]) for thing in range(1, len(bounds))]


def value_beside(bounds, placed, thing):
    lows = [minus(placed[j], fraction(bounds[j][thing][0])) for j in placed if bounds[j][thing] is not None]
    highs = [plus(placed[j], fraction(bounds[thing][j][0])) for j in placed if bounds[thing][j] is not None]
    return between(greatest(lows), least(highs))


def between(low, high):
    # Halfway keeps strict bounds too: where both sides are one, neither is strict.
    if low is None and high is None:
        return fraction(0)
    if low is None:
        return minus(high, fraction(1))
    if high is None:
        return plus(low, fraction(1))
    return times(plus(low, high), fraction(1, 2))


def greatest(parts):
    told = None
    for part in parts:
        if told is None or less(told, part):
            told = part
    return told


def least(parts):
    told = None
    for part in parts:
        if told is None or less(part, told):
            told = part
    return told


def mixed(one, other, e):
    rest = minus(fraction(1), e)
    return [plus(times(rest, first), times(e, second)) for first, second in zip(one, other)]
