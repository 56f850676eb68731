"""Timing: when the acts of a row can be done, or what the net asks of their times that can't be kept."""

from watchyard.bounds import tighter_of
from watchyard.closing import closed
from watchyard.fractions import fraction, minus
from watchyard.points import filled
from watchyard.states import begun, doors_of, place_behind, stays_of, watch_conds
from watchyard.tables import open_table


def timed(net, acts):
    places = places_along(net, acts)
    if len(places) <= len(acts):
        return ("act", len(places) - 1)
    # Thing number i of the table is time i.
    table = table_of(len(acts), asked_of(net, acts, places))
    told = closed(table)
    if told[0] == "ring":
        return ("ring", asked_round(table, told[1]))
    return ("run", run_at(acts, [fraction(0)] + filled(told[1], {0: fraction(0)})))


def places_along(net, acts):
    # The start's and one behind each act, up to the first that can't be done.
    told = [begun(net)[:2]]
    for act in acts:
        place = place_behind(net, told[-1], doors_of(net, act)) if net.is_act(act) else None
        if place is None:
            return told
        told.append(place)
    return told


def asked_of(net, acts, places):
    told = []
    since = [0 for watch in net.watches()]
    for time, act in enumerate(acts, start=1):
        doors = doors_of(net, act)
        ahead = places[time - 1][0]
        told.extend(asked_in_order(net, ahead, time))
        told.extend(asked_by(watch_conds(doors) + stays_of(net, ahead), since, time))
        since = since_behind(since, doors, time)
        told.extend(asked_by(stays_of(net, places[time][0]), since, time))
    return told


def asked_in_order(net, rooms, time):
    told = [(time - 1, time, 0, False)]
    if net.hurries(rooms):
        told.append((time, time - 1, 0, False))
    return told


def asked_by(conds, since, time):
    # Since which time each watch runs: that of its last reset.
    told = []
    for cond in conds:
        begin = since[cond.number]
        if cond.sign in ("<", "<=", "=="):
            told.append((time, begin, cond.against, cond.sign == "<"))
        if cond.sign in (">", ">=", "=="):
            told.append((begin, time, -cond.against, cond.sign == ">"))
    return told


def since_behind(since, doors, time):
    told = list(since)
    for door in doors:
        for watch in door.resets:
            told[watch] = time
    return told


def table_of(k, asked):
    # Of several bounds for the same two times the tightest stands for all: it is one that was asked.
    table = open_table(k)
    for i, j, number, strict in asked:
        table[i][j] = tighter_of(table[i][j], (number, strict))
    return table


def asked_round(table, ring):
    return [(thing, after) + table[thing][after] for thing, after in zip(ring, ring[1:] + ring[:1])]


def run_at(acts, times):
    return [(minus(late, early), act) for early, late, act in zip(times, times[1:], acts)]
