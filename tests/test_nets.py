import inspect
import random
import unittest

from making import PRICE, some_yard, yard_acts, yard_doors, yard_start, yard_text

from watchyard.conds import BoxCond, WatchCond
from watchyard.nets import Door, Net, Room
from watchyard.reading import read_net, shown
from watchyard.runs import ran
from watchyard.states import acted, acts_at, begun, waited

TEXT = (
    "watch x\nwatch y\nbox b -2 5 0\nbox k 0 9 9\n"
    "machine m\nroom a\nroom c price 3 hurry stay y < 1, x <= 5\nroom d price 40\n"
    "door c a weather say go price 7 when x < 3, b != 4, y >= 0 do y = 0, b + 1, x = 0, k = 4, b - 2, y = 0\n"
    "door a c\n"
    "machine n\nroom a price 500\nroom e hurry\n"
    "door a e hear go price 20\ndoor a a weather hear go\ndoor a a say go\n"
    "machine o\nroom z\ndoor z z hear lost\ndoor z z hear go price 1 do x = 0\ndoor z z weather\n")


def room_values(room):
    return (room.name, room.price, room.hurry, [(cond.number, cond.sign, cond.against) for cond in room.stays])


def door_values(door):
    conds = [(isinstance(cond, WatchCond), cond.number, cond.sign, cond.against) for cond in door.conds]
    return (door.machine, door.start, door.goal, door.weather, door.word, door.price, conds, door.resets, door.deeds)


def net_values(net):
    """All that a net tells of itself."""
    machines = range(len(net.machines()))
    acts = net.acts()
    return (
        net.watches(), net.boxes(), net.machines(),
        [[room_values(room) for room in net.rooms(each)] for each in machines],
        [door_values(door) for door in net.doors()], acts, [net.is_weather(act) for act in acts],
        [net.price_of(act) for act in acts], shown(net))


class Told(unittest.TestCase):
    def setUp(self):
        self.net = read_net(TEXT)

    def test_watches_boxes_machines(self):
        self.assertEqual(self.net.watches(), ["x", "y"])
        self.assertEqual(self.net.boxes(), [("b", -2, 5, 0), ("k", 0, 9, 9)])
        self.assertEqual(self.net.machines(), ["m", "n", "o"])

    def test_rooms(self):
        self.assertEqual([room_values(room) for room in self.net.rooms(0)], [
            ("a", 0, False, []), ("c", 3, True, [(1, "<", 1), (0, "<=", 5)]), ("d", 40, False, [])])
        self.assertEqual([room_values(room) for room in self.net.rooms(1)], [("a", 500, False, []), ("e", 0, True, [])])
        self.assertEqual([room_values(room) for room in self.net.rooms(2)], [("z", 0, False, [])])

    def test_doors(self):
        conds = [(True, 0, "<", 3), (False, 0, "!=", 4), (True, 1, ">=", 0)]
        deeds = [(0, "+", 1), (1, "=", 4), (0, "-", 2)]
        self.assertEqual([door_values(door) for door in self.net.doors()], [
            (0, "c", "a", True, ("say", "go"), 7, conds, [0, 1], deeds),
            (0, "a", "c", False, None, 0, [], [], []),
            (1, "a", "e", False, ("hear", "go"), 20, [], [], []),
            (1, "a", "a", True, ("hear", "go"), 0, [], [], []),
            (1, "a", "a", False, ("say", "go"), 0, [], [], []),
            (2, "z", "z", False, ("hear", "lost"), 0, [], [], []),
            (2, "z", "z", False, ("hear", "go"), 1, [], [0], []),
            (2, "z", "z", True, None, 0, [], [], [])])

    def test_kinds(self):
        for room in self.net.rooms(0):
            self.assertIs(type(room), Room)
            self.assertIs(type(room.hurry), bool)
            self.assertIs(type(room.stays), list)
            self.assertTrue(all(type(cond) is WatchCond for cond in room.stays))
        for door in self.net.doors():
            self.assertIs(type(door), Door)
            self.assertIs(type(door.weather), bool)
            for each in (door.conds, door.resets, door.deeds):
                self.assertIs(type(each), list)
            self.assertTrue(all(type(deed) is tuple for deed in door.deeds))
        self.assertEqual([type(cond) for cond in self.net.doors()[0].conds], [WatchCond, BoxCond, WatchCond])
        self.assertIs(type(self.net), Net)

    def test_conditions_hold_as_they_should(self):
        stays = self.net.rooms(0)[1].stays
        self.assertEqual([cond.holds((0, 9), ((5, 1), (1, 2))) for cond in stays], [True, True])
        self.assertEqual([cond.holds((0, 9), ((11, 2), (1, 1))) for cond in stays], [False, False])
        conds = self.net.doors()[0].conds
        self.assertEqual([cond.holds((4, 9), ((3, 1), (0, 1))) for cond in conds], [False, False, True])

    def test_acts(self):
        self.assertEqual(self.net.acts(), [(0, 2), (0, 3), (0, 6), (1,), (4, 6), (7,)])

    def test_no_act_of_one_machine_or_of_a_word_alone(self):
        for doors, acts in (
                ("door a a say go\ndoor a a hear go\n", []), ("door a a say go\n", []), ("door a a hear go\n", []),
                ("door a a say go\nmachine n\nroom a\ndoor a a say go\n", []),
                ("door a a hear go\nmachine n\nroom a\ndoor a a hear go\n", []),
                ("door a a say go\nmachine n\nroom a\ndoor a a hear goes\n", []),
                ("door a a say go\nmachine n\nroom a\ndoor a a hear go\n", [(0, 1)]),
                ("door a a hear go\nmachine n\nroom a\ndoor a a say go\n", [(1, 0)]),
                ("door a a hear go\ndoor a a\nmachine n\nroom a\ndoor a a say go\ndoor a a hear go\n", [(1,), (2, 0)])):
            self.assertEqual(read_net("machine m\nroom a\n" + doors).acts(), acts, doors)

    def test_acts_rise_by_number_and_not_by_their_digits(self):
        net = read_net("machine m\nroom a\n" + "door a a\n" * 12)
        self.assertEqual(net.acts(), [(number,) for number in range(12)])

    def test_whose_an_act_is(self):
        told = {act: self.net.is_weather(act) for act in self.net.acts()}
        self.assertEqual(told, {(0, 2): True, (0, 3): True, (0, 6): True, (1,): False, (4, 6): False, (7,): True})
        net = read_net("machine m\nroom a\ndoor a a say go\nmachine n\nroom a\ndoor a a weather hear go\n")
        self.assertIs(net.is_weather((0, 1)), True)
        self.assertIs(self.net.is_weather((1,)), False)

    def test_prices_of_acts(self):
        told = {act: self.net.price_of(act) for act in self.net.acts()}
        self.assertEqual(told, {(0, 2): 27, (0, 3): 7, (0, 6): 8, (1,): 0, (4, 6): 1, (7,): 0})
        great = read_net(f"machine m\nroom a\ndoor a a say w price {PRICE}\n"
                         f"machine n\nroom a\ndoor a a hear w price {PRICE}\n")
        self.assertEqual(great.price_of((0, 1)), 2 * 10 ** 30)

    def test_rates_and_hurry(self):
        self.assertEqual(self.net.rate(("a", "a", "z")), 500)
        self.assertEqual(self.net.rate(("c", "a", "z")), 503)
        self.assertEqual(self.net.rate(("d", "a", "z")), 540)
        self.assertEqual(self.net.rate(("d", "e", "z")), 40)
        told = [self.net.hurries((one, other, "z")) for one in "acd" for other in "ae"]
        self.assertEqual(told, [False, True, True, True, False, True])
        self.assertTrue(all(type(each) is bool for each in told))
        great = read_net("".join(f"machine {name}\nroom r price {PRICE}\n" for name in "mnop"))
        self.assertEqual(great.rate(("r",) * 4), 4 * 10 ** 30)

    def test_a_net_with_nothing(self):
        net = read_net("machine m\nroom r\n")
        self.assertEqual((net.watches(), net.boxes(), net.machines(), net.doors(), net.acts()), ([], [], ["m"], [], []))
        self.assertEqual([room_values(room) for room in net.rooms(0)], [("r", 0, False, [])])
        self.assertEqual((net.rate(("r",)), net.hurries(("r",))), (0, False))


class AnyNets(unittest.TestCase):
    def test_what_the_text_says_is_told(self):
        chance = random.Random(3)
        for turn in range(120):
            yard = some_yard(chance, fullest=turn < 10)
            net = read_net(yard_text(yard))
            self.assertEqual(net.watches(), yard["watches"])
            self.assertEqual(net.boxes(), yard["boxes"])
            self.assertEqual(net.machines(), [machine["name"] for machine in yard["machines"]])
            for number, machine in enumerate(yard["machines"]):
                self.assertEqual([room_values(room) for room in net.rooms(number)], [
                    (room["name"], room["price"] or 0, room["hurry"],
                     [(yard["watches"].index(name), sign, against) for name, sign, against in room["stays"]])
                    for room in machine["rooms"]])
            doors = [wanted_door(yard, machine, door) for machine, door in yard_doors(yard)]
            self.assertEqual([door_values(door) for door in net.doors()], doors)
            self.assertEqual(net.acts(), yard_acts(yard))
            self.assertEqual([net.price_of(act) for act in net.acts()],
                             [sum(doors[number][5] for number in act) for act in net.acts()])
            self.assertEqual([net.is_weather(act) for act in net.acts()],
                             [any(doors[number][3] for number in act) for act in net.acts()])
            rooms = [chance.choice(machine["rooms"]) for machine in yard["machines"]]
            names = tuple(room["name"] for room in rooms)
            self.assertEqual(net.rate(names), sum(room["price"] or 0 for room in rooms))
            self.assertIs(net.hurries(names), any(room["hurry"] for room in rooms))


def wanted_door(yard, machine, door):
    boxes = [box[0] for box in yard["boxes"]]
    conds = []
    for name, sign, against in door["conds"]:
        watch = name in yard["watches"]
        conds.append((watch, (yard["watches"] if watch else boxes).index(name), sign, against))
    resets = sorted({yard["watches"].index(name) for name, sign, number in door["deeds"] if name in yard["watches"]})
    deeds = [(boxes.index(name), sign, number) for name, sign, number in door["deeds"] if name in boxes]
    parts = (machine, door["start"], door["goal"], door["weather"], door["word"], door["price"] or 0)
    return parts + (conds, resets, deeds)


def spoil(net):
    """Changes all that the net tells, as an asker may."""
    for told in (net.watches(), net.boxes(), net.machines(), net.acts()):
        told.reverse()
        told.append(("z", 0, 0, 0))
        told.clear()
    for number in range(len(net.machines())):
        rooms = net.rooms(number)
        for room in rooms:
            for cond in room.stays:
                cond.number, cond.sign, cond.against = 0, "<=", 0
            room.stays.append(WatchCond(0, "<=", 0))
            room.name, room.price, room.hurry, room.stays = "q", 99, not room.hurry, []
        rooms.clear()
    doors = net.doors()
    for door in doors:
        for cond in door.conds:
            cond.number, cond.sign, cond.against = 0, ">", 60
        door.conds.append(WatchCond(0, ">", 60))
        door.resets.extend([0, 0])
        door.deeds.insert(0, (0, "+", 20))
        door.deeds.clear()
        door.start, door.goal, door.weather, door.word, door.price = "q", "q", not door.weather, None, 99
        door.machine = 0
    doors.reverse()
    doors.clear()


def doings(net):
    """What becomes of a net's start: the states, the waits and acts that can be done from there on."""
    state = begun(net)
    told = [state, acts_at(net, state), ran(net, [])]
    if not net.hurries(state[0]):
        told.append(waited(net, state, (0, 1)))
    for act in acts_at(net, state):
        told.append(acted(net, state, act))
        told.append(acts_at(net, told[-1]))
    return told


class Asked(unittest.TestCase):
    def test_what_was_told_is_the_askers(self):
        chance = random.Random(4)
        texts = [TEXT] + [yard_text(some_yard(chance)) for unused in range(25)]
        for text in texts:
            net = read_net(text)
            values, done = net_values(net), doings(net)
            spoil(net)
            self.assertEqual(doings(net), done)
            self.assertEqual(net_values(net), values)
            spoil(net)
            self.assertEqual((net_values(net), doings(net)), (values, done))

    def test_lists_within_are_told_anew(self):
        net = read_net(TEXT)
        door, again = net.doors()[0], net.doors()[0]
        for one, other in ((door.conds, again.conds), (door.resets, again.resets), (door.deeds, again.deeds)):
            self.assertIsNot(one, other)
        self.assertIsNot(net.rooms(0)[1].stays, net.rooms(0)[1].stays)
        self.assertEqual(door_values(door), door_values(again))

    def test_what_was_told_stays_as_the_asker_left_it(self):
        net = read_net(TEXT)
        door = net.doors()[0]
        door.resets.append(7)
        net.doors()
        self.assertEqual(door.resets, [0, 1, 7])

    def test_two_nets_by_turns(self):
        chance = random.Random(5)
        for unused in range(15):
            one, other = (read_net(yard_text(some_yard(chance))) for unused in range(2))
            first, second = net_values(one), net_values(other)
            done, did = doings(one), doings(other)
            for unused in range(2):
                spoil(one)
                self.assertEqual((net_values(other), doings(other)), (second, did))
                spoil(other)
                self.assertEqual((net_values(one), doings(one)), (first, done))

    def test_two_nets_of_one_text(self):
        one, other = read_net(TEXT), read_net(TEXT)
        values = net_values(one)
        spoil(one)
        self.assertEqual(net_values(other), values)

    def test_what_is_handed_in_is_not_changed(self):
        net = read_net(TEXT)
        rooms, act = ("a", "a", "z"), (0, 2)
        net.rate(rooms), net.hurries(rooms), net.price_of(act), net.is_weather(act)
        self.assertEqual((rooms, act), (("a", "a", "z"), (0, 2)))


class Interface(unittest.TestCase):
    def test_names_and_arguments(self):
        wanted = {
            "watches": "(self)", "machines": "(self)", "boxes": "(self)", "rooms": "(self, machine)", "doors": "(self)",
            "acts": "(self)", "is_weather": "(self, act)", "price_of": "(self, act)", "rate": "(self, rooms)",
            "hurries": "(self, rooms)"}
        for name, arguments in wanted.items():
            self.assertEqual(str(inspect.signature(getattr(Net, name))), arguments, name)

    def test_the_starts_rooms_are_the_first_ones(self):
        chance = random.Random(6)
        for unused in range(20):
            yard = some_yard(chance)
            self.assertEqual(begun(read_net(yard_text(yard))), yard_start(yard))


if __name__ == "__main__":
    unittest.main()
