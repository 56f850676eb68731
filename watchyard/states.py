"""States: tuples (rooms, boxes, times), and what a wait or an act makes of them."""

from watchyard.errors import NoAct, NoWait
from watchyard.fractions import fraction, is_fraction, less, plus


def begun(net):
    rooms = tuple([net.rooms(machine)[0].name for machine in range(len(net.machines()))])
    boxes = tuple([box[3] for box in net.boxes()])
    return (rooms, boxes, tuple([fraction(0) for watch in net.watches()]))


def waited(net, state, d):
    told = behind_wait(net, state, d)
    if told is None:
        raise NoWait(0)
    return told


def acted(net, state, act):
    told = behind_act(net, state, act) if net.is_act(act) else None
    if told is None:
        raise NoAct(0)
    return told


def acts_at(net, state):
    return [act for act in net.acts() if behind_act(net, state, act) is not None]


def behind_wait(net, state, d):
    if not is_fraction(d) or less(d, fraction(0)):
        return None
    if d == fraction(0):
        return state
    if net.hurries(state[0]):
        return None
    return if_stays_hold(net, (state[0], state[1], tuple([plus(time, d) for time in state[2]])))


def behind_act(net, state, act):
    doors = [net.own_doors[number] for number in act]
    if not all([state[0][door.machine] == door.start for door in doors]):
        return None
    if not all([conds_hold(door.conds, state) for door in doors]):
        return None
    boxes = behind_deeds(net, state[1], doors)
    if boxes is None:
        return None
    return if_stays_hold(net, (behind_doors(state[0], doors), boxes, behind_resets(state[2], doors)))


def conds_hold(conds, state):
    return all([cond.holds(state[1], state[2]) for cond in conds])


def if_stays_hold(net, state):
    for own, name in zip(net.own_rooms, state[0]):
        if not conds_hold(own[name].stays, state):
            return None
    return state


def behind_doors(rooms, doors):
    told = list(rooms)
    for door in doors:
        told[door.machine] = door.goal
    return tuple(told)


def behind_resets(times, doors):
    told = list(times)
    for door in doors:
        for watch in door.resets:
            told[watch] = fraction(0)
    return tuple(told)


def behind_deeds(net, boxes, doors):
    # Each deed by itself has to leave its box within: a later one doesn't mend it.
    told = list(boxes)
    for door in doors:
        for deed in door.deeds:
            told[deed[0]] = behind_deed(told[deed[0]], deed)
            if not lies_within(net.box_tuples[deed[0]], told[deed[0]]):
                return None
    return tuple(told)


def behind_deed(number, deed):
    if deed[1] == "+":
        return number + deed[2]
    if deed[1] == "-":
        return number - deed[2]
    return deed[2]


def lies_within(box, number):
    return box[1] <= number <= box[2]
