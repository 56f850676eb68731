"""Slopes: the steps from a spot's corners to others, with their prices. Heights may fall by no more along them."""

from watchyard.cells import is_moment, ranks_of
from watchyard.openings import leads, looked_through, resets_of
from watchyard.spots import later
from watchyard.states import doors_of


class Slope:
    # The step is an act, () for who waits until the next cell, or None for who stays in the cell while it goes by.
    # For each of the spot's corners, the number of the goal's to which it leads there, None where it doesn't.
    def __init__(self, step, goal, price, becomes):
        self.step = step
        self.goal = goal
        self.price = price
        self.becomes = becomes


def slopes_from(net, most, start):
    known = {}
    return looked_through(start, lambda spot: slopes_at(net, most, spot, known), goals_of)


def goals_of(slopes):
    return [slope.goal for slope in slopes]


def slopes_at(net, most, spot, known):
    last = corner_count(spot) - 1
    told = []
    for act, goal in leads(net, most, spot, known):
        told.append(Slope(act, goal, net.price_of(act), corners_behind(spot[2], resets_of(doors_of(net, act)))))
    moment = is_moment(most, spot[2])
    after = later(net, most, spot)
    if after is not None:
        told.append(Slope((), after, 0, list(range(last + 1)) if moment else [None] + list(range(last))))
    # Where there are no ranks, no watch that matters runs: who stays there only pays.
    if not moment and last > 0 and not net.hurries(spot[0]):
        told.append(Slope(None, spot, net.rate(spot[0]), [last] + [None] * last))
    return told


def corner_count(spot):
    return len(ranks_of(spot[2]))


def corners_behind(cell, resets):
    # In corner number c the watches of the c greatest ranks have one more: of these ranks those count
    # that a watch without a reset has.
    last = len(ranks_of(cell)) - 1
    left = ranks_of([place for watch, place in enumerate(cell) if watch not in resets])[1:]
    return [len([rank for rank in left if rank > last - number]) for number in range(last + 1)]
