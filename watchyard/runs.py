"""Runs: lists of tuples (wait, act) from the start on, () for no act."""

from watchyard.errors import NoAct, NoWait
from watchyard.fractions import fraction, plus, times
from watchyard.states import behind_act, behind_wait, begun


def ran(net, run):
    states = [begun(net)]
    for number, entry in enumerate(run):
        states.append(behind_entry(net, states[-1], entry, number))
    return states


def behind_entry(net, state, entry, number):
    later = behind_wait(net, state, entry[0])
    if later is None:
        raise NoWait(number)
    if is_no_act(entry[1]):
        return later
    told = behind_act(net, later, entry[1]) if net.is_act(entry[1]) else None
    if told is None:
        raise NoAct(number)
    return told


def is_no_act(thing):
    return isinstance(thing, tuple) and len(thing) == 0


def lasts(run):
    total = fraction(0)
    for entry in run:
        total = plus(total, entry[0])
    return total


def spent(net, run):
    total = fraction(0)
    for state, entry in zip(ran(net, run), run):
        total = plus(total, times(entry[0], fraction(net.rate(state[0]))))
        total = plus(total, fraction(net.price_of(entry[1])))
    return total
