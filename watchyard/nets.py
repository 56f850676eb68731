"""Nets: machines with their rooms and doors, watches and boxes, and the acts that the doors make."""

from watchyard.conds import cond_again
from watchyard.fractions import is_whole


class Room:
    def __init__(self, name, price, hurry, stays):
        self.name = name
        self.price = price
        self.hurry = hurry
        self.stays = stays


class Door:
    def __init__(self, machine, start, goal, weather, word, price, conds, resets, deeds):
        self.machine = machine
        self.start = start
        self.goal = goal
        self.weather = weather
        self.word = word
        self.price = price
        self.conds = conds
        self.resets = resets
        self.deeds = deeds


class Net:
    # Rooms and doors are told as new ones each time, so that whatever an asker
    # does to them is nothing to the net. The own ones are for the package alone.
    def __init__(self, text, watches, boxes, machines, rooms, doors):
        self.text = text
        self.watch_names = watches
        self.box_tuples = boxes
        self.machine_names = machines
        self.own_rooms = [dict([(room.name, room) for room in each]) for each in rooms]
        self.own_doors = doors
        self.own_acts = dict([(act, True) for act in acts_of(doors)])

    def watches(self):
        return list(self.watch_names)

    def machines(self):
        return list(self.machine_names)

    def boxes(self):
        return list(self.box_tuples)

    def rooms(self, machine):
        return [room_again(room) for room in self.own_rooms[machine].values()]

    def doors(self):
        return [door_again(door) for door in self.own_doors]

    def acts(self):
        return list(self.own_acts)

    def is_act(self, thing):
        # True and 1.0 equal 1: looked up alone they would pass for a door's number.
        if not isinstance(thing, tuple) or not all([is_whole(number) for number in thing]):
            return False
        return thing in self.own_acts

    def is_weather(self, act):
        return any([self.own_doors[number].weather for number in act])

    def price_of(self, act):
        return sum([self.own_doors[number].price for number in act])

    def rate(self, rooms):
        return sum([own[name].price for own, name in zip(self.own_rooms, rooms)])

    def hurries(self, rooms):
        return any([own[name].hurry for own, name in zip(self.own_rooms, rooms)])


def room_again(room):
    return Room(room.name, room.price, room.hurry, [cond_again(cond) for cond in room.stays])


def door_again(door):
    conds = [cond_again(cond) for cond in door.conds]
    return Door(
        door.machine, door.start, door.goal, door.weather, door.word, door.price,
        conds, list(door.resets), list(door.deeds))


def acts_of(doors):
    told = [(number,) for number in range(len(doors)) if doors[number].word is None]
    for number, door in enumerate(doors):
        told.extend([(number, other) for other in range(len(doors)) if hears(doors[other], door)])
    return sorted(told)


def hears(door, sayer):
    if sayer.word is None or sayer.word[0] != "say" or sayer.machine == door.machine:
        return False
    return door.word == ("hear", sayer.word[1])
