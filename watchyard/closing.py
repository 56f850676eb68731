"""Closing: the tightest bounds that a table's bounds put on its points, or a ring of bounds that leaves it none."""

from watchyard.bounds import bound_sum, keeps, tighter, tighter_of
from watchyard.fractions import fraction
from watchyard.tables import copied


def closed(table):
    for thing in range(len(table)):
        if not keeps(fraction(0), table[thing][thing]):
            return ("ring", [thing])
    bounds = with_noughts(table)
    ways = straight_ways(len(table))
    for middle in range(len(table)):
        ring = ring_through(bounds, ways, middle)
        if ring is not None:
            return ("ring", ring)
        lead_through(bounds, ways, middle)
    return ("table", bounds)


def with_noughts(table):
    bounds = copied(table)
    for thing in range(len(table)):
        bounds[thing][thing] = (0, False)
    return bounds


def straight_ways(size):
    # The way from i to j that a bound was summed over: its things from i on, j
    # left out. It is kept whole: where strict bounds are summed, a tighter part
    # need not make a tighter sum, so that next steps alone might lead in circles.
    ways = []
    for thing in range(size):
        ways.append([[thing] for goal in range(size)])
    return ways


def ring_through(bounds, ways, middle):
    # A ring comes to light at the turn of its second greatest thing, if no other
    # one does earlier. So the way there and back holds no thing twice: it would
    # be two rounds then, and one of them a ring that came to light before.
    for thing in range(len(bounds)):
        total = bound_sum(bounds[thing][middle], bounds[middle][thing])
        if not keeps(fraction(0), total):
            return ways[thing][middle] + ways[middle][thing]
    return None


def lead_through(bounds, ways, middle):
    for i in range(len(bounds)):
        for j in range(len(bounds)):
            total = bound_sum(bounds[i][middle], bounds[middle][j])
            if tighter(total, bounds[i][j]):
                bounds[i][j] = total
                ways[i][j] = ways[i][middle] + ways[middle][j]


def together(one, other):
    both = []
    for first, second in zip(one, other):
        both.append([tighter_of(left, right) for left, right in zip(first, second)])
    return closed(both)


def within(one, other):
    for i in range(len(one)):
        for j in range(len(one)):
            if tighter(other[i][j], one[i][j]):
                return False
    return True
