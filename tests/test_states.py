import copy
import fractions
import inspect
import random
import unittest

from making import SIXTY, some_yard, yard_acted, yard_acts, yard_start, yard_text, yard_waited

from watchyard import states as own
from watchyard.errors import NoAct, NoWait, WatchError
from watchyard.reading import read_net
from watchyard.states import acted, acts_at, begun, waited

NO_ACTS = (
    (), (99,), (-1,), (0, 0), (0, 1), (1, 0), (0, 0, 0), [0], [], None, 0, True, "0", "", ("0",), (0.0,), (True,),
    (False,), (None,), ([0],), ({},), ((0,),), {0: True}, {0}, frozenset([0]), object(), (10 ** 60,), b"\x00",
    (0, None))


def machine(rows, ahead=""):
    """A net of one machine, of rows between slashes."""
    return read_net(ahead.replace("/", "\n") + "machine m\n" + rows.replace("/", "\n") + "\n")


def refusal_of(called, net, state, thing):
    """The refusal's kind and value, None where there is none."""
    try:
        called(net, state, thing)
    except WatchError as refusal:
        return (type(refusal), refusal.at)
    return None


class Cases(unittest.TestCase):
    def assertNoWait(self, net, state, d):
        self.assertEqual(refusal_of(waited, net, state, d), (NoWait, 0), d)

    def assertNoAct(self, net, state, act):
        self.assertEqual(refusal_of(acted, net, state, act), (NoAct, 0), act)
        self.assertNotIn(act, acts_at(net, state))

    def assertActed(self, net, state, act, told):
        self.assertEqual(acted(net, state, act), told)
        self.assertIn(act, acts_at(net, state))


class Begun(Cases):
    def test_first_rooms_starts_and_noughts(self):
        net = read_net("watch x\nwatch y\nbox b -5 5 -3\nbox k 2 2 2\nmachine m\nroom c\nroom a\ndoor a c\n"
                       "machine n\nroom b\nroom a\n")
        self.assertEqual(begun(net), (("c", "b"), (-3, 2), ((0, 1), (0, 1))))

    def test_nothing_but_a_room(self):
        self.assertEqual(begun(read_net("machine m\nroom r\n")), (("r",), (), ()))

    def test_kinds(self):
        state = begun(machine("room r", "watch x/box b 0 1 1/"))
        self.assertEqual([type(each) for each in (state,) + state], [tuple] * 4)
        self.assertEqual(state, (("r",), (1,), ((0, 1),)))

    def test_stays_hold_at_the_start(self):
        net = machine("room r stay x <= 0, x < 1", "watch x/")
        self.assertEqual(waited(net, begun(net), (0, 1)), begun(net))


class Waits(Cases):
    def test_all_watches_show_more(self):
        net = machine("room r", "watch x/watch y/box b 0 3 2/")
        state = (("r",), (2,), ((1, 2), (7, 3)))
        self.assertEqual(waited(net, state, (1, 6)), (("r",), (2,), ((2, 3), (5, 2))))
        self.assertEqual(waited(net, state, (0, 1)), state)
        self.assertEqual(waited(net, state, (SIXTY, 1)), (("r",), (2,), ((2 * SIXTY + 1, 2), (3 * SIXTY + 7, 3))))

    def test_below_nought(self):
        net = machine("room r", "watch x/")
        for d in ((-1, 1), (-1, SIXTY), (-SIXTY, 2)):
            self.assertNoWait(net, begun(net), d)
            self.assertNoWait(net, (("r",), (), ((90, 1),)), d)

    def test_nought_where_there_is_no_watch(self):
        net = machine("room r")
        self.assertEqual(waited(net, begun(net), (5, 1)), begun(net))
        self.assertNoWait(net, begun(net), (-5, 1))

    def test_rooms_that_hurry(self):
        net = read_net("watch x\nmachine m\nroom r\nroom h hurry\nmachine n\nroom r\nroom h hurry\n")
        for rooms in (("h", "r"), ("r", "h"), ("h", "h")):
            state = (rooms, (), ((1, 2),))
            self.assertEqual(waited(net, state, (0, 1)), state)
            for d in ((1, 1), (1, SIXTY), (-1, 1), (SIXTY, 1)):
                self.assertNoWait(net, state, d)
        self.assertEqual(waited(net, (("r", "r"), (), ((1, 2),)), (1, 2)), (("r", "r"), (), ((1, 1),)))

    def test_waits_that_just_keep_a_stay(self):
        net = machine("room r stay x <= 5/room s stay x < 5", "watch x/")
        inch = (1, SIXTY)
        for at in (0, 1, 4):
            at_most, below = (("r",), (), ((at, 1),)), (("s",), (), ((at, 1),))
            gap = 5 - at
            short, long = (gap * SIXTY - 1, SIXTY), (gap * SIXTY + 1, SIXTY)
            self.assertEqual(waited(net, at_most, (gap, 1))[2], ((5, 1),))
            self.assertEqual(waited(net, at_most, short)[2], ((5 * SIXTY - 1, SIXTY),))
            self.assertNoWait(net, at_most, long)
            self.assertNoWait(net, below, (gap, 1))
            self.assertNoWait(net, below, long)
            self.assertEqual(waited(net, below, short)[2], ((5 * SIXTY - 1, SIXTY),))
        edge = (("r",), (), ((5, 1),))
        self.assertEqual(waited(net, edge, (0, 1)), edge)
        self.assertNoWait(net, edge, inch)

    def test_stays_of_all_rooms(self):
        net = read_net("watch x\nwatch y\nmachine m\nroom r stay x <= 5, y <= 4\nmachine n\nroom r stay y < 3\n"
                       "room s stay x <= 2\nmachine o\nroom q\n")
        state = (("r", "r", "q"), (), ((0, 1), (0, 1)))
        self.assertEqual(waited(net, state, (5, 2))[2], ((5, 2), (5, 2)))
        self.assertNoWait(net, state, (3, 1))
        state = (("r", "s", "q"), (), ((0, 1), (2, 1)))
        self.assertEqual(waited(net, state, (2, 1))[2], ((2, 1), (4, 1)))
        self.assertNoWait(net, state, (9, 4))
        self.assertNoWait(net, (("r", "s", "q"), (), ((0, 1), (3, 1))), (3, 2))

    def test_what_is_no_fraction_is_no_wait(self):
        net = machine("room r", "watch x/")
        for d in ((2, 4), (1, 0), (0, 2), (1, -1), 1, 0, None, "1", (True, 1), (1,), (1, 1, 1), [1, 1]):
            self.assertNoWait(net, begun(net), d)


class Acts(Cases):
    def test_rooms(self):
        net = machine("room a/room b/room c/door a b/door b c/door c c/door c a")
        for room, acts in (("a", [(0,)]), ("b", [(1,)]), ("c", [(2,), (3,)])):
            self.assertEqual(acts_at(net, ((room,), (), ())), acts)
        self.assertActed(net, (("a",), (), ()), (0,), (("b",), (), ()))
        self.assertActed(net, (("c",), (), ()), (2,), (("c",), (), ()))
        self.assertActed(net, (("c",), (), ()), (3,), (("a",), (), ()))
        for act in ((1,), (2,), (3,)):
            self.assertNoAct(net, (("a",), (), ()), act)

    def test_rooms_of_other_machines_called_alike(self):
        net = read_net("machine m\nroom a\nroom b\ndoor b a\nmachine n\nroom b\nroom a\ndoor b a\n")
        self.assertEqual(acts_at(net, (("a", "b"), (), ())), [(1,)])
        self.assertActed(net, (("a", "b"), (), ()), (1,), (("a", "a"), (), ()))
        self.assertActed(net, (("b", "b"), (), ()), (0,), (("a", "b"), (), ()))

    def test_conditions_that_just_hold(self):
        inch = SIXTY
        for sign, holding in (("<", [True, False, False]), ("<=", [True, True, False]), ("==", [False, True, False]),
                              (">=", [False, True, True]), (">", [False, False, True])):
            net = machine(f"room r/door r r when x {sign} 3", "watch x/")
            for time, holds in zip([(3 * inch - 1, inch), (3, 1), (3 * inch + 1, inch)], holding):
                self.assertEqual(acts_at(net, (("r",), (), (time,))), [(0,)] if holds else [], (sign, time))
                self.assertEqual(refusal_of(acted, net, (("r",), (), (time,)), (0,)), None if holds else (NoAct, 0))
        for sign, holding in (("<", [True, False, False]), ("<=", [True, True, False]), ("==", [False, True, False]),
                              ("!=", [True, False, True]), (">=", [False, True, True]), (">", [False, False, True])):
            net = machine(f"room r/door r r when b {sign} -3", "box b -9 9 0/")
            for number, holds in zip([-4, -3, -2], holding):
                self.assertEqual(acts_at(net, (("r",), (number,), ())), [(0,)] if holds else [], (sign, number))

    def test_all_conditions(self):
        net = machine("room r/door r r when x >= 2, x < 4, b == 1", "watch x/box b 0 1 0/")
        for time, number, acts in ((2, 1, [(0,)]), (3, 1, [(0,)]), (4, 1, []), (1, 1, []), (3, 0, [])):
            self.assertEqual(acts_at(net, (("r",), (number,), ((time, 1),))), acts)

    def test_conditions_are_looked_at_ahead_of_deeds(self):
        net = machine("room r/door r r when b == 0, x > 1 do b = 1, x = 0", "watch x/box b 0 1 0/")
        self.assertActed(net, (("r",), (0,), ((2, 1),)), (0,), (("r",), (1,), ((0, 1),)))
        self.assertNoAct(net, (("r",), (1,), ((2, 1),)), (0,))
        both = read_net("box b 0 1 0\nmachine m\nroom r\ndoor r r say w do b = 1\n"
                        "machine n\nroom r\ndoor r r hear w when b == 0\n")
        self.assertActed(both, (("r", "r"), (0,), ()), (0, 1), (("r", "r"), (1,), ()))
        self.assertNoAct(both, (("r", "r"), (1,), ()), (0, 1))

    def test_deeds(self):
        net = machine("room r/door r r do b + 3, k = -1, b - 1, x = 0", "watch x/watch y/box b -9 9 0/box k -1 5 5/")
        self.assertActed(net, (("r",), (0, 5), ((3, 2), (5, 2))), (0,), (("r",), (2, -1), ((0, 1), (5, 2))))

    def test_deeds_that_leave_a_box_just_within(self):
        for deed, number, holds in (
                ("b + 3", 2, True), ("b + 3", 3, False), ("b - 3", -1, True), ("b - 3", -2, False), ("b = 5", 0, True),
                ("b = 6", 0, False), ("b = -4", 0, True), ("b = -5", 0, False), ("b + 1", 4, True), ("b + 1", 5, False),
                ("b - 1", -3, True), ("b - 1", -4, False), ("b + 20", -4, False), ("b = 20", 5, False)):
            net = machine(f"room r/door r r do {deed}", "box b -4 5 0/")
            self.assertEqual(acts_at(net, (("r",), (number,), ())), [(0,)] if holds else [], (deed, number))

    def test_a_later_deed_does_not_bring_it_back(self):
        for deeds, number in (("b + 3, b - 3", 3), ("b - 1, b + 1", 0), ("b = 6, b = 5", 0), ("b - 1, b = 2", 0),
                              ("b = 2, b + 4, b - 4", 0), ("k = 1, b = 6, b = 0", 1)):
            net = machine(f"room r/door r r do {deeds}", "box b 0 5 0/box k 0 1 0/")
            self.assertNoAct(net, (("r",), (number, 0), ()), (0,))
        net = machine("room r/door r r do b - 3, b + 3", "box b 0 5 0/")
        self.assertActed(net, (("r",), (3,), ()), (0,), (("r",), (3,), ()))
        self.assertActed(net, (("r",), (5,), ()), (0,), (("r",), (5,), ()))

    def test_stays_behind_the_act(self):
        for stay, time, holds in (
                ("x <= 3", (3, 1), True), ("x <= 3", (3 * SIXTY + 1, SIXTY), False), ("x < 3", (3, 1), False),
                ("x < 3", (3 * SIXTY - 1, SIXTY), True), ("x <= 0", (0, 1), True), ("x <= 0", (1, 9), False)):
            net = machine(f"room r/room s stay {stay}/door r s", "watch x/")
            self.assertEqual(acts_at(net, (("r",), (), (time,))), [(0,)] if holds else [], (stay, time))
            self.assertEqual(refusal_of(acted, net, (("r",), (), (time,)), (0,)), None if holds else (NoAct, 0))

    def test_a_reset_lets_a_stay_hold(self):
        net = machine("room r/room s stay x <= 0/door r s do x = 0/door r s do y = 0/door r s", "watch x/watch y/")
        state = (("r",), (), ((5, 1), (5, 1)))
        self.assertEqual(acts_at(net, state), [(0,)])
        self.assertActed(net, state, (0,), (("s",), (), ((0, 1), (5, 1))))
        self.assertNoAct(net, state, (1,))
        self.assertNoAct(net, state, (2,))
        both = read_net("watch x\nmachine m\nroom r\nroom s stay x <= 0\ndoor r s say w\n"
                        "machine n\nroom r\ndoor r r hear w do x = 0\ndoor r r hear w\n")
        self.assertEqual(acts_at(both, (("r", "r"), (), ((5, 1),))), [(0, 1)])

    def test_the_stay_of_the_room_that_is_left_is_nothing_to_it(self):
        net = machine("room r stay x <= 2/room s/door r s", "watch x/")
        self.assertActed(net, (("r",), (), ((2, 1),)), (0,), (("s",), (), ((2, 1),)))

    def test_hurry_is_nothing_to_acts(self):
        net = machine("room r hurry/room s hurry/door r s", "watch x/")
        self.assertActed(net, begun(net), (0,), (("s",), (), ((0, 1),)))

    def test_two_doors(self):
        net = read_net("watch x\nmachine m\nroom a\nroom b\ndoor a b say w when x > 1\ndoor b b say w\n"
                       "machine n\nroom c\nroom d\ndoor c d hear w when x < 3 do x = 0\ndoor d d\n")
        state = (("a", "c"), (), ((2, 1),))
        self.assertEqual(acts_at(net, state), [(0, 2)])
        self.assertActed(net, state, (0, 2), (("b", "d"), (), ((0, 1),)))
        for times in (((1, 1),), ((3, 1),)):
            self.assertNoAct(net, (("a", "c"), (), times), (0, 2))
        for rooms in (("b", "c"), ("a", "d"), ("b", "d")):
            self.assertNoAct(net, (rooms, (), ((2, 1),)), (0, 2))
        self.assertEqual(acts_at(net, (("b", "c"), (), ((2, 1),))), [(1, 2)])

    def test_the_first_doors_deeds_come_first(self):
        text = "box b 0 5 0\nmachine m\nroom r\ndoor r r {0}\nmachine n\nroom r\ndoor r r {1}\n"
        for first, second, told in (("b + 5", "b - 5", 0), ("b - 1", "b + 1", None), ("b = 4", "b + 1", 5),
                                    ("b + 1", "b = 4", 4), ("b = 3", "b = 2", 2), ("b + 3", "b + 3", None)):
            for says, act in ((0, (0, 1)), (1, (1, 0))):
                words = [f"say w do {first}", f"hear w do {second}"]
                net = read_net(text.format(words[says], words[1 - says]))
                self.assertEqual(net.acts(), [act])
                if told is None:
                    self.assertNoAct(net, begun(net), act)
                else:
                    self.assertActed(net, begun(net), act, (("r", "r"), (told,), ()))

    def test_what_is_no_act_of_the_net(self):
        net = machine("room r/door r r")
        self.assertActed(net, begun(net), (0,), begun(net))
        for thing in NO_ACTS:
            self.assertEqual(refusal_of(acted, net, begun(net), thing), (NoAct, 0), thing)
        net = read_net("machine m\nroom r\ndoor r r say w\ndoor r r hear w\n"
                       "machine n\nroom r\ndoor r r hear w\ndoor r r say v\n")
        self.assertEqual(acts_at(net, begun(net)), [(0, 2)])
        for thing in NO_ACTS + (
                (0,), (1,), (2,), (3,), (2, 0), (0, 2, 0), [0, 2], (0.0, 2), (False, 2), (0, 3), (3, 2)):
            self.assertEqual(refusal_of(acted, net, begun(net), thing), (NoAct, 0), thing)

    def test_acts_rise(self):
        net = machine("room r/" + "/".join(["door r r"] * 12))
        self.assertEqual(acts_at(net, begun(net)), [(number,) for number in range(12)])


class AnyNets(Cases):
    def test_walks(self):
        chance = random.Random(7)
        seen = {"waits": 0, "no waits": 0, "acts": 0, "no acts": 0}
        for turn in range(220):
            yard = some_yard(chance, most=4, fullest=turn < 30)
            net = read_net(yard_text(yard))
            state = begun(net)
            self.assertEqual(state, yard_start(yard))
            for unused in range(8):
                state = self.stepped(chance, yard, net, state, seen)
        for kind, count in seen.items():
            self.assertGreater(count, 300, kind)

    def stepped(self, chance, yard, net, state, seen):
        """Looks at some waits and all acts from a state on; tells a later one."""
        befores = [state]
        for wait in [(0, 1), (chance.randint(-1, 3), 1)] + [some_wait(chance) for unused in range(3)]:
            told = yard_waited(yard, state, wait)
            seen["no waits" if told is None else "waits"] += 1
            if told is None:
                self.assertNoWait(net, state, wait)
            else:
                self.assertEqual(waited(net, state, wait), told)
                befores.append(told)
        ends = list(befores)
        for before in befores:
            wanted = {act: yard_acted(yard, before, act) for act in yard_acts(yard)}
            self.assertEqual(acts_at(net, before), [act for act in sorted(wanted) if wanted[act] is not None])
            for act, told in wanted.items():
                seen["no acts" if told is None else "acts"] += 1
                if told is None:
                    self.assertNoAct(net, before, act)
                else:
                    self.assertEqual(acted(net, before, act), told)
                    ends.append(told)
        return chance.choice(ends)


def some_wait(chance):
    bottom = chance.choice([1, 2, 3, SIXTY])
    wait = fractions.Fraction(chance.randint(0, 2 * bottom) * chance.choice([1, 1, 1, -1]), bottom)
    return (wait.numerator, wait.denominator)


class Asked(Cases):
    def test_what_is_handed_in_is_not_changed_and_the_same_is_told_again(self):
        net = machine("room r stay x <= 9/door r r when x > 1 do x = 0, b + 1", "watch x/box b 0 9 0/")
        state, d, act = (("r",), (0,), ((3, 2),)), (1, 3), (0,)
        copies = copy.deepcopy((state, d, act))
        for unused in range(3):
            self.assertEqual(waited(net, state, d), (("r",), (0,), ((11, 6),)))
            self.assertEqual(acted(net, state, act), (("r",), (1,), ((0, 1),)))
            told = acts_at(net, state)
            self.assertEqual(told, [(0,)])
            told.clear()
            self.assertEqual((state, d, act), copies)

    def test_two_nets_by_turns(self):
        one = machine("room r stay x <= 2/door r r", "watch x/")
        other = machine("room r hurry/door r r do x = 0", "watch x/")
        for unused in range(2):
            self.assertEqual(waited(one, begun(one), (2, 1))[2], ((2, 1),))
            self.assertNoWait(other, begun(other), (2, 1))
            self.assertEqual(acted(one, (("r",), (), ((1, 1),)), (0,))[2], ((1, 1),))
            self.assertEqual(acted(other, (("r",), (), ((1, 1),)), (0,))[2], ((0, 1),))


class Interface(unittest.TestCase):
    def test_names_and_arguments(self):
        for name, arguments in {"begun": "(net)", "waited": "(net, state, d)", "acts_at": "(net, state)",
                                "acted": "(net, state, act)"}.items():
            self.assertEqual(str(inspect.signature(getattr(own, name))), arguments, name)


if __name__ == "__main__":
    unittest.main()
