"""States: tuples (rooms, boxes, times), and what a wait or an act makes of them."""

from watchyard.conds import BoxCond, WatchCond
from watchyard.errors import NoAct, NoWait
from watchyard.fractions import fraction, is_fraction, less, plus


def begun(net):
    rooms = tuple([net.rooms(machine)[0].name for machine in range(len(net.machines()))])
    boxes = tuple([box[3] for box in net.boxes()])
    return (rooms, boxes, tuple([fraction(0) for watch in net.watches()]))


def waited(net, state, d):
    told = behind_wait(net, state, d)
    if told is None:
        raise NoWait(0)
    return told


def acted(net, state, act):
    told = behind_act(net, state, act) if net.is_act(act) else None
    if told is None:
        raise NoAct(0)
    return told


def acts_at(net, state):
    return [act for act in net.acts() if behind_act(net, state, act) is not None]


def behind_wait(net, state, d):
    if not is_fraction(d) or less(d, fraction(0)):
        return None
    if d == fraction(0):
        return state
    if net.hurries(state[0]):
        return None
    return if_stays_hold(net, (state[0], state[1], tuple([plus(time, d) for time in state[2]])))


def behind_act(net, state, act):
    doors = doors_of(net, act)
    place = place_behind(net, state[:2], doors)
    if place is None or not conds_hold(watch_conds(doors), state):
        return None
    return if_stays_hold(net, place + (behind_resets(state[2], doors),))


def doors_of(net, act):
    return [net.own_doors[number] for number in act]


def place_behind(net, place, doors):
    # A place is a tuple (rooms, boxes), a state without its times: whatever the watches show, it is the same.
    if not all([place[0][door.machine] == door.start for door in doors]):
        return None
    if not all([cond.holds(place[1], ()) for cond in box_conds(doors)]):
        return None
    boxes = behind_deeds(net, place[1], doors)
    return None if boxes is None else (behind_doors(place[0], doors), boxes)


def watch_conds(doors):
    told = []
    for door in doors:
        told.extend([cond for cond in door.conds if isinstance(cond, WatchCond)])
    return told


def box_conds(doors):
    told = []
    for door in doors:
        told.extend([cond for cond in door.conds if isinstance(cond, BoxCond)])
    return told


def conds_hold(conds, state):
    return all([cond.holds(state[1], state[2]) for cond in conds])


def if_stays_hold(net, state):
    return state if conds_hold(stays_of(net, state[0]), state) else None


def stays_of(net, rooms):
    told = []
    for own, name in zip(net.own_rooms, rooms):
        told.extend(own[name].stays)
    return told


def behind_doors(rooms, doors):
    told = list(rooms)
    for door in doors:
        told[door.machine] = door.goal
    return tuple(told)


def behind_resets(times, doors):
    told = list(times)
    for door in doors:
        for watch in door.resets:
            told[watch] = fraction(0)
    return tuple(told)


def behind_deeds(net, boxes, doors):
    # Each deed by itself has to leave its box within: a later one doesn't mend it.
    told = list(boxes)
    for door in doors:
        for deed in door.deeds:
            told[deed[0]] = behind_deed(told[deed[0]], deed)
            if not lies_within(net.box_tuples[deed[0]], told[deed[0]]):
                return None
    return tuple(told)


def behind_deed(number, deed):
    if deed[1] == "+":
        return number + deed[2]
    if deed[1] == "-":
        return number - deed[2]
    return deed[2]


def lies_within(box, number):
    return box[1] <= number <= box[2]
