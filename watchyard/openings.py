"""Openings: what rooms and boxes let be done at a place, whatever the watches show, for looking through many spots."""

from watchyard.cells import put_back
from watchyard.spots import state_in
from watchyard.states import conds_hold, doors_of, place_behind, stays_of, watch_conds


class Opening:
    # An act with all that it needs beside its place: a place is a tuple (rooms, boxes).
    def __init__(self, act, place, conds, resets, stays):
        self.act = act
        self.place = place
        self.conds = conds
        self.resets = resets
        self.stays = stays


def openings_at(net, place):
    told = []
    for act in net.acts():
        doors = doors_of(net, act)
        behind = place_behind(net, place, doors)
        if behind is not None:
            told.append(Opening(act, behind, watch_conds(doors), resets_of(doors), stays_of(net, behind[0])))
    return told


def resets_of(doors):
    told = []
    for door in doors:
        told.extend(door.resets)
    return told


def leads(net, most, spot, known):
    # Tuples (act, spot): all that may be done there, rising, and where each leads.
    # Spots are many, places few: the dict keeps the openings of those seen so far.
    if spot[:2] not in known:
        known[spot[:2]] = openings_at(net, spot[:2])
    state = state_in(most, spot)
    told = []
    for opening in known[spot[:2]]:
        if conds_hold(opening.conds, state):
            goal = opening.place + (put_back(spot[2], opening.resets),)
            if conds_hold(opening.stays, state_in(most, goal)):
                told.append((opening.act, goal))
    return told


def looked_through(start, look, goals_of):
    # What look tells of each spot that there is from the start on, by spot; goals_of tells of this to which it leads.
    told = {}
    fresh = [start]
    while len(fresh) > 0:
        for spot in fresh:
            told[spot] = look(spot)
        fresh = unseen(told, fresh, goals_of)
    return told


def unseen(looked, spots, goals_of):
    told = {}
    for spot in spots:
        for goal in goals_of(looked[spot]):
            if goal not in looked:
                told[goal] = True
    return list(told)
