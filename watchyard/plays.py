"""Plays: a plan against the weather's replies, and a counter-plan against our wishes."""

from watchyard.errors import NoMove
from watchyard.force import LET, LOST, MET, WAIT, YIELD, game_mosts
from watchyard.fractions import fraction, less, minus, plus, times
from watchyard.runs import behind_entry, is_no_act
from watchyard.spots import may_wait, spot_of
from watchyard.states import acts_at, begun, behind_act, behind_wait
from watchyard.waits import HALF, till_moment, wait_on


def play_plan(net, ask, shun, plan, replies):
    most = game_mosts(net, ask, shun)
    words = dict([(spot, word) for spot, rank, word in plan])
    run = []
    state = begun(net)
    word = words[spot_of(most, state)]
    while word != MET:
        reply = replies[len(run)] if len(run) < len(replies) else None
        run.append(entry_by_plan(net, most, ask, state, word, reply))
        state = behind_entry(net, state, run[-1], 0)
        word = words[spot_of(most, state)]
    return run


def entry_by_plan(net, most, ask, state, word, reply):
    if word == YIELD:
        return (fraction(0), counted_round(weather_acts(net, state), 0 if reply is None else reply[1]))
    told = (wait_on(most, state[2]), ()) if word == WAIT else (fraction(0), word[1])
    cut = None if reply is None else cut_by(net, ask, state, times(reply[0], told[0]), reply[1])
    return told if cut is None else cut


def cut_by(net, ask, state, wait, k):
    # The states up to then lie in the cell of the begin, which doesn't meet the ask, or in that of the last one:
    # so the last one tells whether any does.
    then = behind_wait(net, state, wait)
    acts = weather_acts(net, then)
    if ask.meets(then) or len(acts) == 0:
        return None
    return (wait, counted_round(acts, k))


def weather_acts(net, state):
    return [act for act in acts_at(net, state) if net.is_weather(act)]


def counted_round(acts, k):
    return acts[k % len(acts)]


def play_counter(net, ask, shun, counter, wishes):
    most = game_mosts(net, ask, shun)
    words = dict(counter)
    run = []
    state = begun(net)
    for at, wish in enumerate(wishes):
        if words[spot_of(most, state)] == LOST:
            return (run, "lost")
        if not may_wish(net, most, state, wish):
            raise NoMove(at)
        entry = entry_against(most, words, state, wish)
        if entry is None:
            return (run, "ended")
        run.append(entry)
        state = behind_entry(net, state, entry, at)
    return (run, "lost" if words[spot_of(most, state)] == LOST else "kept")


def may_wish(net, most, state, wish):
    if wish is None:
        return not may_wait(net, most, spot_of(most, state))
    if not isinstance(wish, tuple) or len(wish) != 2:
        return False
    then = behind_wait(net, state, wish[0])
    return then is not None and (is_no_act(wish[1]) or may_do(net, then, wish[1]))


def may_do(net, state, act):
    if not net.is_act(act) or net.is_weather(act):
        return False
    return behind_act(net, state, act) is not None


def entry_against(most, words, state, wish):
    # None where we yield and the weather has no act: where it had one, it would not let us be.
    for spot, wait in stops_along(most, state, fraction(0) if wish is None else wish[0]):
        if words[spot] == LOST:
            return (wait, ())
        if words[spot] != LET:
            return (wait, words[spot][1])
    return wish


def stops_along(most, state, wait):
    # Tuples (spot, wait) for the spots on the way, in order, and where our wait would end if it ended there.
    # The first and the last spot may stand there more than once: the first time is the one that counts.
    told = [stop_at(most, state, fraction(0))]
    gone = fraction(0)
    while less(gone, wait):
        step = minus(wait, gone)
        left = till_moment(most, shown_after(state[2], gone))
        if left is not None and less(left, step):
            step = left
        told.append(stop_at(most, state, plus(gone, times(step, HALF))))
        gone = plus(gone, step)
        told.append(stop_at(most, state, gone))
    return told


def stop_at(most, state, wait):
    return (spot_of(most, (state[0], state[1], shown_after(state[2], wait))), wait)


def shown_after(shown, wait):
    return tuple([plus(time, wait) for time in shown])
