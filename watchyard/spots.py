"""Spots: tuples (rooms, boxes, cell), alike for all states from which the same can be done."""

from watchyard.cells import cell_of, is_moment, next_cell, standard
from watchyard.states import acted, acts_at, if_stays_hold


def spot_of(most, state):
    return (state[0], state[1], cell_of(most, state[2]))


def state_in(most, spot):
    return (spot[0], spot[1], standard(most, spot[2]))


def later(net, most, spot):
    cell = None if net.hurries(spot[0]) else next_cell(most, spot[2])
    if cell is None:
        return None
    told = (spot[0], spot[1], cell)
    return None if if_stays_hold(net, state_in(most, told)) is None else told


def may_wait(net, most, spot):
    # Within a cell that is no moment some time goes by, also where nobody comes out of it.
    if net.hurries(spot[0]):
        return False
    return not is_moment(most, spot[2]) or later(net, most, spot) is not None


def acts_in(net, most, spot):
    return acts_at(net, state_in(most, spot))


def led(net, most, spot, act):
    return spot_of(most, acted(net, state_in(most, spot), act))
