"""Near: runs that meet an ask at a price as near to the least as wanted."""

from watchyard.asks import mosts
from watchyard.fractions import floor_of, fraction, minus
from watchyard.points import mixed
from watchyard.prices import falls_from
from watchyard.runs import spent
from watchyard.spots import spot_of
from watchyard.states import begun
from watchyard.ways import run_along


def run_near(net, ask, n):
    most = mosts(net, [ask])
    start = spot_of(most, begun(net))
    falls = falls_from(net, most, ask, start)
    if len(falls[start]) == 0:
        return None
    steps = steps_down(falls, falls[start][0])
    run = run_along(net, most, [step for step in steps if step is not None])
    over = minus(spent(net, run), fraction(falls[start][0].price))
    return drawn_near(run, waits_at_corners(steps), fraction(1, n * (floor_of(over) + 1)))


def steps_down(falls, fall):
    told = []
    while fall.behind is not None:
        told.append(fall.step)
        fall = falls[fall.behind[0]][fall.behind[1]]
    return told


def waits_at_corners(steps):
    # One ahead of each act and one behind the last. With these the steps cost just the least price, and nothing
    # that they ask of the watches is broken but that some show the very number that they should be below or above.
    told = [0]
    for step in steps:
        if step is None:
            told[-1] = told[-1] + 1
        elif step != ():
            told.append(0)
    return [fraction(wait) for wait in told]


def drawn_near(run, waits, e):
    # The run goes by the same steps as the waits at corners: what lies between both, with any share e above 0 of the
    # run's, keeps all that the run keeps, and costs e times as much above the least price.
    acts = [act for wait, act in run if act != ()]
    own = [wait for wait, act in run]
    if len(own) == len(acts):
        own.append(fraction(0))
    near = mixed(waits, own, e)
    told = list(zip(near, acts))
    return told if near[-1] == fraction(0) else told + [(near[-1], ())]
