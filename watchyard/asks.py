"""Asks: texts that say of states which ones are meant, and the greatest numbers that watches are held against."""

from watchyard.conds import WatchCond
from watchyard.errors import NoAsk
from watchyard.states import conds_hold
from watchyard.wording import cond_of


class Ask:
    # Each part is a tuple (rooms, conds): pairs of a machine's number and a room's name, and conditions.
    def __init__(self, parts):
        self.parts = parts

    def meets(self, state):
        return any([part_holds(part, state) for part in self.parts])


def part_holds(part, state):
    if not all([state[0][machine] == name for machine, name in part[0]]):
        return False
    return conds_hold(part[1], state)


def read_ask(net, text):
    if not isinstance(text, str):
        raise NoAsk("an ask is a text")
    return Ask([part_of(net, part) for part in text.split("; ")])


def part_of(net, text):
    rooms = []
    conds = []
    for each in text.split(", "):
        words = each.split(" ")
        refuse_unless(len(words) == 3)
        if words[1] == "at":
            rooms.append(room_asked(net, words))
        else:
            conds.append(cond_asked(net, words))
    return (rooms, conds)


def refuse_unless(fits):
    if not fits:
        raise NoAsk("a condition is MACHINE at ROOM, or holds a watch or a box of the net against a number")


def room_asked(net, words):
    refuse_unless(words[0] in net.machine_names)
    machine = net.machine_names.index(words[0])
    refuse_unless(words[2] in net.own_rooms[machine])
    return (machine, words[2])


def cond_asked(net, words):
    cond = cond_of(net.watch_names, [box[0] for box in net.box_tuples], words)
    refuse_unless(cond is not None)
    return cond


def mosts(net, asks):
    told = [0 for watch in net.watch_names]
    for cond in conds_against(net, asks):
        if isinstance(cond, WatchCond):
            told[cond.number] = max(told[cond.number], cond.against)
    return told


def conds_against(net, asks):
    told = []
    for rooms in net.own_rooms:
        for room in rooms.values():
            told.extend(room.stays)
    for door in net.own_doors:
        told.extend(door.conds)
    for ask in asks:
        for part in ask.parts:
            told.extend(part[1])
    return told
