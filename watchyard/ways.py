"""Ways: a run that meets an ask, or a book of all spots that there are, none of which does."""

from watchyard.asks import mosts
from watchyard.fractions import fraction, plus
from watchyard.openings import leads
from watchyard.spots import later, spot_of, state_in
from watchyard.states import begun, behind_act, behind_wait
from watchyard.waits import wait_on


def way_to(net, ask):
    most = mosts(net, [ask])
    start = spot_of(most, begun(net))
    # Each spot found, with the step by which it was: a tuple (spot ahead, act), () for waiting.
    found = {start: None}
    fresh = [start]
    known = {}
    while len(fresh) > 0:
        met = [spot for spot in fresh if ask.meets(state_in(most, spot))]
        if len(met) > 0:
            return ("met", run_along(net, most, steps_to(found, met[0])))
        fresh = found_behind(net, most, fresh, found, known)
    return ("never", sorted(found))


def found_behind(net, most, spots, found, known):
    told = []
    for spot in spots:
        for act, goal in steps_from(net, most, spot, known):
            if goal not in found:
                found[goal] = (spot, act)
                told.append(goal)
    return told


def steps_from(net, most, spot, known):
    goal = later(net, most, spot)
    return leads(net, most, spot, known) + ([] if goal is None else [((), goal)])


def steps_to(found, spot):
    told = []
    step = found[spot]
    while step is not None:
        told.append(step[1])
        step = found[step[0]]
    return list(reversed(told))


def run_along(net, most, steps):
    told = []
    state = begun(net)
    wait = fraction(0)
    for act in steps:
        if act == ():
            step = wait_on(most, state[2])
            state = behind_wait(net, state, step)
            wait = plus(wait, step)
        else:
            state = behind_act(net, state, act)
            told.append((wait, act))
            wait = fraction(0)
    return told if wait == fraction(0) else told + [(wait, ())]
