import copy
import inspect
import random
import unittest

from making import SIXTY, small_yard, some_state_in, some_yard, text_of, yard_acted, yard_acts, yard_later, yard_leads
from making import yard_may_wait, yard_mosts, yard_spot, yard_start, yard_text, yard_waited

from watchyard import spots as own
from watchyard.asks import mosts, read_ask
from watchyard.errors import NoAct, WatchError
from watchyard.reading import read_net
from watchyard.spots import acts_in, later, led, may_wait, spot_of, state_in
from watchyard.states import begun

NO_ACTS = (
    (), (99,), (-1,), (0, 0), (0, 0, 0), [0], [], None, 0, True, "0", ("0",), (0.0,), (True,), (False,), (None,),
    ([0],), ((0,),), {0: True}, {0}, object(), (10 ** 60,), (0, None))


def net_of(rows):
    return read_net(text_of(rows))


def refusal_of(net, most, spot, act):
    """The refusal's kind and value, None where there is none."""
    try:
        led(net, most, spot, act)
    except WatchError as refusal:
        return (type(refusal), refusal.at)
    return None


def walked(chance, yard, length):
    """States that come of any waits and acts, from the start on."""
    state = yard_start(yard)
    told = [state]
    for unused in range(length):
        for wait in (chance.choice([(0, 1), (1, 1), (3, 1)]), chance.choice([(0, 1), (1, 2), (1, 3), (1, SIXTY)])):
            state = yard_waited(yard, state, wait) or state
        told.append(state)
        behind = [yard_acted(yard, state, act) for act in yard_acts(yard)]
        state = chance.choice([each for each in behind if each is not None] + [state])
        told.append(state)
    return told


class SpotOf(unittest.TestCase):
    def test_without_a_watch(self):
        net = net_of("box b 0 3 2/machine m/room r/room s/door r s")
        self.assertEqual(spot_of([], begun(net)), (("r",), (2,), ()))
        self.assertEqual(spot_of([], (("s",), (3,), ())), (("s",), (3,), ()))

    def test_with_several(self):
        state = (("r", "s"), (1, -2), ((1, 2), (7, 3), (5, 1), (9, 1)))
        self.assertEqual(spot_of([3, 3, 5, 4], state), (("r", "s"), (1, -2), ((0, 2), (2, 1), (5, 0), (5, 0))))
        self.assertEqual(spot_of([0, 3, 4, 60], state), (("r", "s"), (1, -2), ((1, 0), (2, 1), (5, 0), (9, 0))))

    def test_any(self):
        chance = random.Random(1)
        for unused in range(60):
            yard = some_yard(chance, 4)
            most = yard_mosts(yard, [])
            for state in walked(chance, yard, 5):
                told = spot_of(most, state)
                self.assertEqual(told, yard_spot(most, state))
                self.assertEqual([type(each) for each in (told,) + told], [tuple] * 4)


class StateIn(unittest.TestCase):
    def test_its_spot_is_the_one_handed_in(self):
        chance = random.Random(2)
        for unused in range(80):
            yard = some_yard(chance, 3)
            most = yard_mosts(yard, [])
            for state in walked(chance, yard, 5):
                spot = yard_spot(most, state)
                told = state_in(most, spot)
                self.assertEqual(yard_spot(most, told), spot)
                self.assertEqual(spot_of(most, told), spot)
                self.assertEqual([type(each) for each in (told,) + told], [tuple] * 4)

    def test_by_hand(self):
        self.assertEqual(state_in([], (("r",), (2,), ())), (("r",), (2,), ()))
        self.assertEqual(state_in([3, 0], (("r",), (), ((2, 0), (0, 0)))), (("r",), (), ((2, 1), (0, 1))))
        rooms, boxes, times = state_in([3, 1], (("r", "s"), (1,), ((2, 1), (2, 0))))
        self.assertEqual((rooms, boxes), (("r", "s"), (1,)))
        self.assertTrue(2 * times[0][1] < times[0][0] < 3 * times[0][1])
        self.assertGreater(times[1][0], times[1][1])


class Later(unittest.TestCase):
    def assertLater(self, net, most, cell, told, waits, rooms=("r",), boxes=()):
        wanted = None if told is None else (rooms, boxes, told)
        self.assertEqual(later(net, most, (rooms, boxes, cell)), wanted, cell)
        self.assertIs(may_wait(net, most, (rooms, boxes, cell)), waits, cell)

    def test_without_a_watch_there_is_no_next_cell_and_any_wait_may_be_done(self):
        net = net_of("box b 0 3 2/machine m/room r/room h hurry")
        self.assertLater(net, [], (), None, True, boxes=(2,))
        self.assertLater(net, [], (), None, False, ("h",), (2,))

    def test_moments_and_what_lies_between(self):
        net = net_of("watch x/machine m/room r/door r r when x > 2")
        self.assertLater(net, [2], ((0, 0),), ((0, 1),), True)
        self.assertLater(net, [2], ((0, 1),), ((1, 0),), True)
        self.assertLater(net, [2], ((1, 0),), ((1, 1),), True)
        self.assertLater(net, [2], ((1, 1),), ((2, 0),), True)
        self.assertLater(net, [2], ((2, 0),), ((3, 0),), True)
        self.assertLater(net, [2], ((3, 0),), None, True)

    def test_stays_at_the_next_cell(self):
        net = net_of("watch x/machine m/room r stay x <= 2/room s stay x < 2/room t stay x <= 0/room u stay x < 1")
        # At most 2: the moment 2 is come to and not left.
        self.assertLater(net, [2], ((1, 0),), ((1, 1),), True)
        self.assertLater(net, [2], ((1, 1),), ((2, 0),), True)
        self.assertLater(net, [2], ((2, 0),), None, False)
        # Below 2: the moment 2 is not come to, but time goes by ahead of it.
        self.assertLater(net, [2], ((1, 0),), ((1, 1),), True, ("s",))
        self.assertLater(net, [2], ((1, 1),), None, True, ("s",))
        self.assertLater(net, [2], ((0, 0),), None, False, ("t",))
        self.assertLater(net, [2], ((0, 0),), ((0, 1),), True, ("u",))
        self.assertLater(net, [2], ((0, 1),), None, True, ("u",))

    def test_stays_of_all_machines_and_watches(self):
        net = net_of("watch x/watch y/machine m/room r/machine n/room r/room s stay x <= 5, y < 1")
        most = mosts(net, [])
        self.assertEqual(most, [5, 1])
        self.assertLater(net, most, ((3, 1), (0, 2)), ((3, 1), (1, 0)), True, ("r", "r"))
        self.assertLater(net, most, ((3, 1), (0, 2)), None, True, ("r", "s"))
        self.assertLater(net, most, ((4, 2), (0, 1)), ((5, 0), (0, 1)), True, ("r", "s"))
        self.assertLater(net, most, ((5, 0), (0, 1)), None, False, ("r", "s"))
        self.assertLater(net, most, ((5, 0), (0, 1)), ((6, 0), (0, 1)), True, ("r", "r"))
        self.assertLater(net, most, ((6, 0), (2, 0)), None, True, ("r", "r"))

    def test_rooms_that_hurry(self):
        net = net_of("watch x/machine m/room r/room h hurry/machine n/room r/room h hurry stay x < 3")
        for cell, after in ((((0, 0),), ((0, 1),)), (((1, 1),), ((2, 0),)), (((3, 0),), ((4, 0),)), (((4, 0),), None)):
            self.assertLater(net, [3], cell, after, True, ("r", "r"))
            for rooms in (("h", "r"), ("r", "h"), ("h", "h")):
                self.assertLater(net, [3], cell, None, False, rooms)

    def test_kinds(self):
        net = net_of("watch x/box b 0 1 1/machine m/room r")
        told = later(net, [0], spot_of([0], begun(net)))
        self.assertEqual(told, (("r",), (1,), ((1, 0),)))
        self.assertEqual([type(each) for each in (told,) + told + told[2]], [tuple] * 5)


class Acts(unittest.TestCase):
    def assertLed(self, net, most, spot, goals):
        self.assertEqual(acts_in(net, most, spot), sorted(goals))
        for act in net.acts():
            if act in goals:
                self.assertEqual(led(net, most, spot, act), goals[act])
            else:
                self.assertEqual(refusal_of(net, most, spot, act), (NoAct, 0), act)

    def test_without_a_watch(self):
        net = net_of("box b 0 1 0/machine m/room r/room s/door r s do b + 1/door s r/door r s do b - 1/door r r")
        self.assertLed(net, [], (("r",), (0,), ()), {(0,): (("s",), (1,), ()), (3,): (("r",), (0,), ())})
        self.assertLed(net, [], (("r",), (1,), ()), {(2,): (("s",), (0,), ()), (3,): (("r",), (1,), ())})
        self.assertLed(net, [], (("s",), (1,), ()), {(1,): (("r",), (1,), ())})

    def test_conditions_at_cells(self):
        net = net_of("watch x/machine m/room r/" + "/".join(
            f"door r r when x {sign} 2" for sign in ("<", "<=", "==", ">=", ">")))
        for cell, numbers in ((((1, 0),), (0, 1)), (((1, 1),), (0, 1)), (((2, 0),), (1, 2, 3)), (((3, 0),), (3, 4)),
                              (((0, 0),), (0, 1))):
            spot = (("r",), (), cell)
            self.assertLed(net, [2], spot, {(number,): spot for number in numbers})

    def test_resets_and_ranks(self):
        net = net_of("watch x/watch y/watch z/machine m/room r/door r r do y = 0/door r r do x = 0, z = 0/door r r")
        spot = (("r",), (), ((1, 1), (2, 2), (0, 3)))
        self.assertLed(net, [3, 3, 3], spot, {
            (0,): (("r",), (), ((1, 1), (0, 0), (0, 2))), (1,): (("r",), (), ((0, 0), (2, 1), (0, 0))), (2,): spot})

    def test_stays_behind_an_act(self):
        net = net_of("watch x/machine m/room r/room s stay x < 2/door r s/door r s do x = 0/door s r")
        for cell, numbers in ((((1, 1),), (0, 1)), (((2, 0),), (1,)), (((3, 0),), (1,))):
            goals = {(0,): (("s",), (), cell), (1,): (("s",), (), ((0, 0),))}
            self.assertLed(net, [2], (("r",), (), cell), {(number,): goals[(number,)] for number in numbers})

    def test_acts_of_two_doors(self):
        net = net_of("watch x/box b 0 2 0/machine m/room r/room s/door r s say go when x >= 1 do b + 1/"
                     "machine n/room r/room s/door r s hear go when x < 2 do x = 0, b + 1")
        self.assertLed(net, [2], (("r", "r"), (0,), ((1, 0),)), {(0, 1): (("s", "s"), (2,), ((0, 0),))})
        self.assertLed(net, [2], (("r", "r"), (0,), ((1, 1),)), {(0, 1): (("s", "s"), (2,), ((0, 0),))})
        for spot in ((("r", "r"), (0,), ((0, 1),)), (("r", "r"), (0,), ((2, 0),)), (("r", "r"), (1,), ((1, 0),)),
                     (("s", "r"), (0,), ((1, 0),)), (("r", "s"), (0,), ((1, 0),))):
            self.assertLed(net, [2], spot, {})

    def test_things_that_are_no_act(self):
        net = net_of("watch x/machine m/room r/door r r/door r r say go")
        spot = spot_of([0], begun(net))
        self.assertIsNone(refusal_of(net, [0], spot, (0,)))
        for thing in NO_ACTS + ((1,), (1, 1), (0, 1), (1, 0)):
            self.assertEqual(refusal_of(net, [0], spot, thing), (NoAct, 0), thing)


class Alike(unittest.TestCase):
    """What is told of a spot is so from each state of it."""

    def assertAlike(self, chance, yard, most, spot, net):
        told_later, waits, acts = later(net, most, spot), may_wait(net, most, spot), acts_in(net, most, spot)
        self.assertIs(type(waits), bool)
        for unused in range(3):
            state = some_state_in(chance, most, spot)
            self.assertEqual(yard_spot(most, state), spot)
            self.assertEqual(told_later, yard_later(yard, most, state))
            self.assertIs(waits, yard_may_wait(yard, state))
            leads = yard_leads(yard, most, state)
            self.assertEqual(acts, sorted(leads))
            self.assertEqual([led(net, most, spot, act) for act in acts], [leads[act] for act in acts])
        for act in yard_acts(yard):
            if act not in acts:
                self.assertEqual(refusal_of(net, most, spot, act), (NoAct, 0))
        return (told_later is not None, waits, len(acts) > 0)

    def test_any(self):
        chance = random.Random(3)
        seen = {}
        for number in range(260):
            yard = small_yard(chance, 3) if number % 2 else some_yard(chance, 3)
            net, most = read_net(yard_text(yard)), yard_mosts(yard, [])
            for spot in {yard_spot(most, state) for state in walked(chance, yard, 4)}:
                kind = self.assertAlike(chance, yard, most, spot, net)
                seen[kind] = seen.get(kind, 0) + 1
        # A next spot means that some wait may be done; else there is each kind.
        self.assertEqual(len(seen), 6)
        self.assertGreater(min(seen.values()), 20)

    def test_greater_numbers_of_asks(self):
        chance = random.Random(4)
        for unused in range(60):
            yard = small_yard(chance, 2)
            net = read_net(yard_text(yard))
            asks = [[[(name, ">", chance.randint(0, 4))] for name in yard["watches"]]] if yard["watches"] else []
            most = yard_mosts(yard, asks)
            for spot in {yard_spot(most, state) for state in walked(chance, yard, 3)}:
                self.assertAlike(chance, yard, most, spot, net)


class Asked(unittest.TestCase):
    TEXT = ("watch x\nbox b 0 2 0\nmachine m\nroom r stay x <= 2\nroom s\ndoor r s when x > 1 do x = 0, b + 1\n"
            "door r r\ndoor s r\n")
    OTHER = "watch x\nbox b 0 2 0\nmachine m\nroom r stay x <= 3\nroom s hurry\ndoor r s when x < 2\ndoor s r\n"

    def all_told(self, net):
        most = mosts(net, [read_ask(net, "x < 2")])
        spot = spot_of(most, (("r",), (0,), ((3, 2),)))
        kept = copy.deepcopy((most, spot))
        told = [spot, state_in(most, spot), later(net, most, spot), may_wait(net, most, spot), acts_in(net, most, spot),
                led(net, most, spot, (0,))]
        self.assertEqual((most, spot), kept)
        return told

    def test_lists_told_are_the_askers(self):
        net = read_net(self.TEXT)
        wanted = copy.deepcopy(self.all_told(net))
        for unused in range(3):
            told = self.all_told(net)
            self.assertEqual(told, wanted)
            told[4].reverse()
            told[4].clear()
        self.assertEqual(wanted[4], [(0,), (1,)])

    def test_by_turns(self):
        one, other = read_net(self.TEXT), read_net(self.OTHER)
        wanted = (self.all_told(one), self.all_told(other))
        self.assertNotEqual(*wanted)
        for unused in range(3):
            self.assertEqual((self.all_told(one), self.all_told(other)), wanted)

    def test_a_refusal_leaves_all_as_it_was(self):
        net = read_net(self.TEXT)
        wanted = self.all_told(net)
        for thing in NO_ACTS:
            refusal_of(net, [2], (("r",), (0,), ((0, 0),)), thing)
        self.assertEqual(self.all_told(net), wanted)


class Interface(unittest.TestCase):
    def test_names_and_arguments(self):
        for name, arguments in {"spot_of": "(most, state)", "state_in": "(most, spot)", "later": "(net, most, spot)",
                                "may_wait": "(net, most, spot)", "acts_in": "(net, most, spot)",
                                "led": "(net, most, spot, act)"}.items():
            self.assertEqual(str(inspect.signature(getattr(own, name))), arguments, name)


if __name__ == "__main__":
    unittest.main()
