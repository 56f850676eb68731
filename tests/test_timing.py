import copy
import inspect
import random
import unittest
from fractions import Fraction

from making import kept_by_0, some_row, some_yard, total_of, yard_acted, yard_acts, yard_asked, yard_of, yard_start
from making import yard_stop, yard_text, yard_waited

from watchyard import timing as own
from watchyard.fractions import is_fraction
from watchyard.reading import read_net
from watchyard.runs import lasts, ran, spent
from watchyard.timing import timed

NO_ACTS = (
    (7,), (-1,), (0, 0), (0, 1), (1, 0), (0, 0, 0), [0], [], None, 0, True, "0", "", ("0",), (0.0,), (False,), (None,),
    ([0],), ({},), ((0,),), {0: True}, {0}, object(), (10 ** 60,))


def machine(rows, ahead=""):
    """The text of a net of one machine, of rows between slashes."""
    return ahead.replace("/", "\n") + "machine m\n" + rows.replace("/", "\n") + "\n"


def one_room(doors, ahead="watch x/watch y/"):
    """The text of a net of one machine that goes round in one room."""
    return machine("room r/" + "/".join(f"door r r {door}".strip() for door in doors), ahead)


def doors_in_order(count):
    return [(number,) for number in range(count)]


class Cases(unittest.TestCase):
    def assertTold(self, yard, net, acts, told):
        """What is told shows by itself that it is right. Tells its kind."""
        self.assertIs(type(told), tuple)
        self.assertEqual(len(told), 2)
        stop = yard_stop(yard, acts)
        if stop is not None:
            self.assertEqual(told, ("act", stop))
            self.assertIs(type(told[1]), int)
            return "act"
        self.assertIn(told[0], ("run", "ring"))
        self.assertIs(type(told[1]), list)
        if told[0] == "run":
            self.assertRun(yard, net, acts, told[1])
        else:
            self.assertRing(yard, acts, told[1])
        return told[0]

    def assertRun(self, yard, net, acts, run):
        self.assertEqual([entry[1] for entry in run], list(acts))
        self.assertTrue(all(type(entry) is tuple and len(entry) == 2 and is_fraction(entry[0]) for entry in run))
        states = [yard_start(yard)]
        for wait, act in run:
            later = yard_waited(yard, states[-1], wait)
            self.assertIsNotNone(later, run)
            states.append(yard_acted(yard, later, act))
            self.assertIsNotNone(states[-1], run)
        self.assertEqual(ran(net, run), states)

    def assertRing(self, yard, acts, ring):
        asked = yard_asked(yard, acts)
        self.assertGreater(len(ring), 0)
        for each, after in zip(ring, ring[1:] + ring[:1]):
            self.assertEqual([type(part) for part in each], [int, int, int, bool])
            self.assertIs(type(each), tuple)
            self.assertIn(each, asked)
            self.assertEqual(each[1], after[0])
        self.assertFalse(kept_by_0(total_of([each[2:] for each in ring])), ring)

    def kind_of(self, text, acts):
        net = read_net(text)
        return self.assertTold(yard_of(text), net, acts, timed(net, acts))

    def assertRuns(self, text, acts):
        self.assertEqual(self.kind_of(text, acts), "run", text)

    def assertRings(self, text, acts):
        self.assertEqual(self.kind_of(text, acts), "ring", text)

    def assertStops(self, text, acts, number):
        self.assertEqual(timed(read_net(text), acts), ("act", number), text)
        self.assertEqual(self.kind_of(text, acts), "act")


class Rows(Cases):
    def test_no_act(self):
        for text in (machine("room r"), machine("room r hurry stay x <= 0", "watch x/"),
                     machine("room r/door r r when x < 0", "watch x/")):
            self.assertEqual(timed(read_net(text), []), ("run", []))

    def test_one_act(self):
        self.assertEqual(timed(read_net(machine("room r hurry/door r r")), [(0,)]), ("run", [((0, 1), (0,))]))
        self.assertEqual(
            timed(read_net(one_room(["when x == 7"])), [(0,)]), ("run", [((7, 1), (0,))]))
        self.assertEqual(
            timed(read_net(machine("room r hurry/door r r when x > 0", "watch x/")), [(0,)])[0], "ring")
        self.assertRuns(one_room([""]), [(0,)])

    def test_the_only_times(self):
        text = one_room(["when x == 3 do x = 0", "when x == 2, y == 5", "when y == 5"])
        wanted = [((3, 1), (0,)), ((2, 1), (1,)), ((0, 1), (2,))]
        self.assertEqual(timed(read_net(text), [(0,), (1,), (2,)]), ("run", wanted))

    def test_forty_acts(self):
        acts = [(0,), (1,)] * 20
        self.assertRuns(one_room(["", ""]), acts)
        self.assertRuns(one_room(["when y >= 1 do y = 0", "when y == 2 do y = 0"]), acts)
        self.assertRuns(one_room(["when y > 1, x < 60 do y = 0", "when y < 1 do y = 0"]), acts)
        self.assertRings(one_room(["when y >= 3 do y = 0", "when x <= 59"]), acts)

    def test_rings_through_forty_acts(self):
        text = "watch x\nwatch y\nmachine m\nroom r\nroom s\ndoor r r when y {0} 1 do y = 0\ndoor r s when x {1} {2}\n"
        acts = [(0,)] * 39 + [(1,)]
        for above, below, number, runs in (
                (">=", "<=", 39, True), (">=", "<", 39, False), (">=", "<=", 38, False), (">=", "<", 40, True),
                (">", "<=", 39, False), (">", "<=", 40, True), (">", "<", 40, True), (">", "<", 39, False),
                ("==", "<=", 39, True), ("==", "<", 39, False), (">=", "==", 39, True), (">", "==", 39, False)):
            self.assertEqual(
                self.kind_of(text.format(above, below, number), acts), "run" if runs else "ring", (above, below))

    def test_rows_longer_than_any_promised(self):
        self.assertRuns(one_room(["when y > 0 do y = 0", "when x < 1"]), [(0,)] * 44 + [(1,)])


class Stops(Cases):
    def test_rooms(self):
        text = machine("room a/room b/door a b/door b a/door b b")
        self.assertStops(text, [(1,)], 0)
        self.assertStops(text, [(0,), (0,)], 1)
        self.assertStops(text, [(0,), (2,), (2,), (1,), (2,), (7,)], 4)
        self.assertRuns(text, [(0,), (2,), (2,), (1,), (0,)])
        self.assertStops(text, [(0,), (1,)] * 19 + [(0,), (0,)], 39)

    def test_rooms_of_two_doors(self):
        text = ("machine m\nroom a\nroom b\ndoor a b say w\ndoor b a\n"
                "machine n\nroom a\nroom b\ndoor a b hear w\ndoor b a\n")
        self.assertRuns(text, [(0, 2), (1,), (3,), (0, 2)])
        self.assertStops(text, [(0, 2), (1,), (0, 2)], 2)
        self.assertStops(text, [(0, 2), (3,), (0, 2)], 2)

    def test_conditions_on_boxes(self):
        for sign, holding in (("<", "100"), ("<=", "110"), ("==", "010"), ("!=", "101"), (">=", "011"), (">", "001")):
            text = one_room(["do b + 1", f"when b {sign} 1"], "box b 0 9 0/")
            for number, holds in enumerate(holding):
                acts = [(0,)] * number + [(1,)]
                if holds == "1":
                    self.assertRuns(text, acts)
                else:
                    self.assertStops(text, acts, number)

    def test_conditions_on_boxes_of_both_doors(self):
        for first, second, holds in (("b == 0", "b == 0", True), ("b == 1", "b == 0", False),
                                     ("b == 0", "b == 1", False), ("x < 9, b == 0", "b < 1, x < 9", True)):
            text = (f"watch x\nbox b 0 5 0\nmachine m\nroom r\ndoor r r say w when {first} do b = 1\n"
                    f"machine n\nroom r\ndoor r r hear w when {second}\n")
            if holds:
                self.assertRuns(text, [(0, 1)])
                self.assertStops(text, [(0, 1), (0, 1)], 1)
            else:
                self.assertStops(text, [(0, 1)], 0)

    def test_deeds_beyond_a_box(self):
        for deeds, stop in (("b + 1", 2), ("b - 1", 2), ("b + 2", 1), ("b + 3", 0), ("b - 2", 1), ("b - 3", 0),
                            ("b = 3", 0), ("b = -3", 0), ("b + 3, b - 3", 0), ("b - 3, b = 0", 0), ("b = 3, b = 2", 0),
                            ("b + 1, b + 1, b - 1", 1), ("b = 2, b - 4, b - 1", 0)):
            self.assertStops(one_room([f"do {deeds}"], "box b -2 2 0/"), [(0,)] * 5, stop)
        for deeds in ("b = 2", "b = -2", "b + 2, b - 2", "b - 2, b + 2", "b + 2, b - 4, b = 0"):
            self.assertRuns(one_room([f"do {deeds}"], "box b -2 2 0/"), [(0,)] * 5)

    def test_the_first_doors_deeds_come_first(self):
        text = "box b 0 2 0\nmachine m\nroom r\ndoor r r {0} w do {1}\nmachine n\nroom r\ndoor r r {2} w do {3}\n"
        for first, second, runs in (("b + 2", "b - 2", True), ("b - 2", "b + 2", False), ("b + 3", "b - 3", False),
                                    ("b + 1", "b + 2", False)):
            for made, act in ((text.format("say", first, "hear", second), (0, 1)),
                              (text.format("hear", second, "say", first), (1, 0))):
                if runs:
                    self.assertRuns(made, [act] * 3)
                else:
                    self.assertStops(made, [act] * 3, 0)

    def test_what_is_no_act_of_the_net(self):
        text = one_room([""], "")
        self.assertRuns(text, [(0,), (0,)])
        for thing in NO_ACTS:
            self.assertStops(text, [thing], 0)
            self.assertStops(text, [(0,), (0,), thing, (0,), thing], 2)
        words = "machine m\nroom r\ndoor r r say w\nmachine n\nroom r\ndoor r r hear w\n"
        self.assertRuns(words, [(0, 1)])
        for thing in ((0,), (1,), (1, 0), (0, 1, 0), [0, 1], (False, 1), (0, True)):
            self.assertStops(words, [(0, 1), thing], 1)

    def test_watches_are_nothing_to_it(self):
        text = machine("room a stay x <= 0/room b stay x < 1/door a b when x > 5, x < 2/door b a", "watch x/")
        self.assertRings(text, [(0,)])
        self.assertRings(text, [(0,), (1,)])
        self.assertStops(text, [(0,), (0,)], 1)
        self.assertStops(text, [(0,), (1,), (1,)], 2)


class Conditions(Cases):
    def test_each_sign_of_a_watch_that_is_never_reset(self):
        for one, other, runs in (
                (">= 3", "<= 3", True), (">= 3", "< 3", False), ("> 3", "<= 3", False), ("> 3", "< 3", False),
                (">= 4", "<= 3", False), ("> 3", "< 4", True), ("== 3", "<= 3", True), ("== 3", "< 3", False),
                ("== 3", "== 3", True), ("== 3", "== 4", True), ("== 4", "== 3", False), (">= 0", "<= 0", True),
                ("> 0", "<= 0", False), (">= 0", "< 0", False), (">= 60", "<= 60", True), (">= 60", "< 60", False),
                ("> 60", ">= 60", True), ("> 59", "< 60", True), ("< 3", ">= 3", True), ("<= 3", "> 3", True)):
            text = one_room([f"when x {one}", f"when x {other}"])
            self.assertEqual(self.kind_of(text, [(0,), (1,)]), "run" if runs else "ring", (one, other))
            if other.startswith(("<", "==")) and not runs:
                both = one_room([f"when x {one}, x {other}"])
                self.assertRings(both, [(0,)])

    def test_the_rings_own_numbers(self):
        text = one_room(["when x > 3", "when x <= 3"])
        ring = timed(read_net(text), [(0,), (1,)])[1]
        self.assertEqual(sorted(ring), [(0, 1, -3, True), (1, 2, 0, False), (2, 0, 3, False)])
        text = machine("room r stay x < 2/door r r when x == 2", "watch x/")
        ring = timed(read_net(text), [(0,)])[1]
        self.assertEqual(sorted(ring), [(0, 1, -2, False), (1, 0, 2, True)])

    def test_the_tightest_of_several(self):
        self.assertRings(one_room(["when x <= 9, x <= 3, x <= 5, x >= 1, x >= 4, x > 2"]), [(0,)])
        self.assertRings(one_room(["when x <= 3, x < 3, x <= 3, x >= 3"]), [(0,)])
        self.assertRuns(one_room(["when x <= 9, x <= 3, x <= 5, x >= 1, x >= 3, x > 2"]), [(0,)])

    def test_a_watch_reset_once(self):
        doors = ["when x >= 2 do x = 0", "when x >= 3", "when y {0}"]
        for last, runs in (("<= 5", True), ("< 5", False), ("<= 4", False), ("== 5", True), ("== 6", True)):
            text = one_room([door.format(last) for door in doors])
            self.assertEqual(self.kind_of(text, doors_in_order(3)), "run" if runs else "ring", last)
        text = one_room(["do x = 0", "when x <= 1", "when y >= 9"])
        self.assertRuns(text, [(0,), (1,), (2,)])
        self.assertRings(text, [(2,), (1,)])
        self.assertRings(text, [(1,), (2,), (1,), (0,)])
        self.assertRuns(text, [(2,), (0,), (1,)])

    def test_a_watch_reset_often(self):
        text = one_room(["when x == 2 do x = 0", "when y == 10", "when y == 9"])
        self.assertRuns(text, [(0,)] * 5 + [(1,)])
        self.assertRings(text, [(0,)] * 5 + [(2,)])
        self.assertRings(text, [(0,)] * 6 + [(1,)])
        self.assertRuns(text, [(0,)] * 4 + [(2,), (0,), (1,)])
        self.assertRings(text, [(0,)] * 3 + [(2,), (0,), (1,)])

    def test_a_watch_reset_by_the_very_act(self):
        # Its conditions are of the time ahead of the reset.
        text = one_room(["when x >= 4 do x = 0", "when x <= 4, y >= 8"])
        self.assertRings(text, [(1,)])
        self.assertRuns(text, [(0,), (1,)])
        self.assertRuns(text, [(0,), (0,), (1,)])
        self.assertRings(one_room(["when x <= 0, x >= 1 do x = 0"]), [(0,)])
        self.assertRings(one_room(["when x == 1 do x = 0", "when x == 0, y == 2"]), [(0,), (1,)])
        self.assertRuns(one_room(["when x == 1 do x = 0", "when x == 0, y == 1"]), [(0,), (1,)])

    def test_acts_of_two_doors(self):
        text = ("watch x\nwatch y\nmachine m\nroom r\ndoor r r say w when x >= {0} do {1} = 0\n"
                "machine n\nroom r\ndoor r r hear w when y {2} do {3} = 0\n")
        for numbers, count, runs in (
                ((3, "x", "<= 3", "y"), 1, True), ((3, "x", "< 3", "y"), 1, False), ((4, "x", "<= 3", "y"), 1, False),
                ((3, "x", "<= 3", "y"), 9, True), ((3, "x", "<= 8", "x"), 2, True), ((3, "x", "<= 8", "x"), 3, False),
                ((3, "y", "<= 3", "y"), 2, True), ((3, "y", "<= 3", "x"), 2, True)):
            self.assertEqual(self.kind_of(text.format(*numbers), [(0, 1)] * count), "run" if runs else "ring", numbers)

    def test_whole_waits_do_not_do(self):
        text = one_room(["when x > 0, x < 1 do x = 0", "when y < 1", "when y < 1, x > 0, x < 1", "when y == 1"])
        for acts in ([(0,)], [(0,), (1,)], [(0,)] * 5 + [(1,), (2,)], [(0,)] * 30 + [(2,)] * 4 + [(3,)]):
            net = read_net(text)
            self.assertRuns(text, acts)
            run = timed(net, acts)[1]
            self.assertTrue(any(wait[1] > 1 for wait, act in run))
        self.assertRings(text, [(3,), (0,)])
        self.assertRings(text, [(0,), (3,), (1,)])


class Stays(Cases):
    def test_ahead_of_an_act(self):
        for stay, cond, runs in (("<= 3", ">= 3", True), ("< 3", ">= 3", False), ("<= 3", "> 3", False),
                                 ("<= 2", "== 3", False), ("< 3", "> 2", True), ("<= 0", "<= 0", True),
                                 ("< 1", "> 0", True), ("<= 0", "> 0", False)):
            text = machine(f"room r stay x {stay}/room s/door r s when x {cond}", "watch x/")
            self.assertEqual(self.kind_of(text, [(0,)]), "run" if runs else "ring", (stay, cond))
            # It is nothing to acts behind the one that leaves.
            text = machine(f"room r stay x {stay}/room s/door r s/door s s when x {cond}", "watch x/")
            self.assertRuns(text, [(0,), (1,)])

    def test_behind_an_act(self):
        for stay, cond, runs in (("<= 3", ">= 3", True), ("< 3", ">= 3", False), ("<= 3", "> 3", False),
                                 ("< 3", "> 2", True), ("<= 0", "> 0", False)):
            text = machine(f"room r/room s stay x {stay}/door r s when x {cond}", "watch x/")
            self.assertEqual(self.kind_of(text, [(0,)]), "run" if runs else "ring", (stay, cond))
            # Where the act itself puts the watch back it holds behind it.
            text = machine(f"room r/room s stay x {stay}/door r s when x {cond} do x = 0", "watch x/")
            self.assertRuns(text, [(0,)])
            text = machine(f"room r/room s stay x {stay}/door r s when x {cond} do y = 0", "watch x/watch y/")
            self.assertEqual(self.kind_of(text, [(0,)]), "run" if runs else "ring", (stay, cond))

    def test_a_stay_ahead_is_of_the_reset_ahead(self):
        text = machine("room r stay x <= 2/door r r when x == 2 do x = 0/door r r when y == 5/door r r when y == 4",
                       "watch x/watch y/")
        self.assertRuns(text, [(0,), (0,), (1,)])
        self.assertRings(text, [(0,), (1,)])
        self.assertRuns(text, [(0,), (2,), (0,), (1,)])
        self.assertRings(text, [(0,), (1,), (0,), (2,)])
        # The act that puts it back does not let the room be stayed in any longer ahead of it.
        self.assertRings(machine("room r stay x <= 2/door r r when y >= 3 do x = 0", "watch x/watch y/"), [(0,)])

    def test_of_all_machines(self):
        text = ("watch x\nwatch y\nmachine m\nroom r\ndoor r r when y >= {0}\n"
                "machine n\nroom a stay x <= 4\nroom b stay x <= 7\ndoor a b\n")
        self.assertRuns(text.format(4), [(0,)])
        self.assertRings(text.format(5), [(0,)])
        self.assertRuns(text.format(7), [(1,), (0,)])
        self.assertRings(text.format(8), [(1,), (0,)])
        self.assertRings(text.format(7), [(0,), (1,)])

    def test_behind_the_last_act(self):
        text = "watch x\nmachine m\nroom r\ndoor r r when x >= 5\nmachine n\nroom a\nroom b stay x < 5\ndoor a b\n"
        self.assertRuns(text, [(1,)])
        self.assertRuns(text, [(0,)])
        self.assertRings(text, [(0,), (1,)])
        self.assertRings(text, [(1,), (0,)])


class Hurry(Cases):
    def test_no_time_goes_by(self):
        text = machine("room r/room h hurry/door r h when x == 3/door h r when x {0}/door h h/door r r when x > 3",
                       "watch x/")
        for sign, runs in (("== 3", True), (">= 3", True), ("> 3", False), ("<= 3", True), ("< 3", False)):
            kind = "run" if runs else "ring"
            self.assertEqual(self.kind_of(text.format(sign), [(0,), (1,)]), kind, sign)
            self.assertEqual(self.kind_of(text.format(sign), [(0,), (2,), (2,), (1,), (3,)]), kind, sign)

    def test_of_another_machine(self):
        text = ("watch x\nmachine m\nroom r\ndoor r r when x > 0\n"
                "machine n\nroom h hurry\nroom k\ndoor h k\ndoor k h do x = 0\n")
        self.assertRings(text, [(0,)])
        self.assertRuns(text, [(1,), (0,)])
        self.assertRings(text, [(1,), (2,), (0,)])
        self.assertRings(text, [(1,), (0,), (2,), (0,)])
        self.assertRuns(text, [(1,), (0,), (2,), (1,), (0,)])

    def test_the_ring_has_it(self):
        text = machine("room r hurry/door r r when x > 0", "watch x/")
        self.assertEqual(sorted(timed(read_net(text), [(0,)])[1]), [(0, 1, 0, True), (1, 0, 0, False)])

    def test_behind_the_act_it_is_nothing_to_it(self):
        self.assertRuns(machine("room r/room h hurry/door r h when x == 9", "watch x/"), [(0,)])


class JustAndNot(Cases):
    def test_sums_of_waits(self):
        chance = random.Random(3)
        for turn in range(60):
            numbers = [chance.randint(0, 9) for unused in range(chance.randint(1, 6))]
            total = sum(numbers)
            signs = [chance.choice([">=", ">"] if turn % 2 else [">="]) for unused in numbers]
            strict = ">" in signs
            doors = [f"when x {sign} {number} do x = 0" for sign, number in zip(signs, numbers)]
            acts = doors_in_order(len(doors) + 1)
            for last, runs in ((f"y <= {total}", not strict), (f"y < {total}", False), (f"y <= {total + 1}", True),
                               (f"y < {total + 1}", True), (f"y == {total}", not strict)):
                text = one_room(doors + [f"when {last}"])
                self.assertEqual(self.kind_of(text, acts), "run" if runs else "ring", text)
            if total > 0:
                self.assertRings(one_room(doors + [f"when y <= {total - 1}"]), acts)

    def test_stays_against_conditions(self):
        text = ("watch x\nwatch y\nwatch z\nmachine m\nroom a stay x <= 4\nroom b stay y < 3\nroom c\n"
                "door a b when z >= {0} do y = 0\ndoor b c when z >= {1}\ndoor c a when z <= 9 do x = 0\n")
        for numbers, runs in (((4, 6), True), ((4, 7), False), ((5, 6), False), ((1, 6), True), ((0, 7), False)):
            kind = "run" if runs else "ring"
            self.assertEqual(self.kind_of(text.format(*numbers), [(0,), (1,), (2,)]), kind, numbers)


class AnyNets(Cases):
    def test_any_rows(self):
        chance = random.Random(11)
        seen = {"act": 0, "run": 0, "ring": 0}
        for turn in range(500):
            yard = some_yard(chance, most=chance.choice([1, 3, 6]), fullest=turn < 60)
            acts = some_row(chance, yard, chance.choice([1, 3, 6, 10, 40 if turn < 90 else 12]))
            if chance.random() < 0.3:
                acts.insert(chance.randint(0, len(acts)), chance.choice(yard_acts(yard) + list(NO_ACTS)))
            net = read_net(yard_text(yard))
            seen[self.assertTold(yard, net, acts, timed(net, acts))] += 1
        for kind, count in seen.items():
            self.assertGreater(count, 60, kind)

    def test_rows_grown_until_they_cannot_be_timed(self):
        chance = random.Random(13)
        seen = []
        for unused in range(150):
            yard = some_yard(chance, most=4)
            net = read_net(yard_text(yard))
            acts = some_row(chance, yard, 12)
            kinds = [self.assertTold(yard, net, acts[:count], timed(net, acts[:count]))
                     for count in range(len(acts) + 1)]
            # What can't be timed can't be with more acts behind it either.
            self.assertEqual(kinds, sorted(kinds, key=["run", "ring"].index))
            seen.append(kinds.count("run") - 1 if "ring" in kinds else 0)
        self.assertGreater(sum(count > 0 for count in seen), 25)

    def test_rows_of_any_run(self):
        chance = random.Random(17)
        for unused in range(120):
            yard = some_yard(chance, most=3)
            net = read_net(yard_text(yard))
            acts = acts_of_any_run(chance, yard, 10)
            self.assertEqual(self.assertTold(yard, net, acts, timed(net, acts)), "run")


def acts_of_any_run(chance, yard, length):
    state, told = yard_start(yard), []
    for unused in range(length):
        wait = Fraction(chance.randint(0, 6), chance.choice([1, 2, 3]))
        later = yard_waited(yard, state, (wait.numerator, wait.denominator)) or state
        free = [act for act in yard_acts(yard) if yard_acted(yard, later, act) is not None]
        state = later
        if free:
            told.append(chance.choice(free))
            state = yard_acted(yard, later, told[-1])
    return told


class Asked(Cases):
    def test_what_is_handed_in_is_not_changed_and_what_is_told_is_the_askers(self):
        net = read_net(one_room(["when x >= 1 do x = 0", "when y <= 2", "when y > 2"]))
        for acts in ([(0,), (0,), (1,)], [(0,), (2,), (1,)], [(0,), (7,)], []):
            kept = copy.deepcopy(acts)
            wanted = copy.deepcopy(timed(net, acts))
            for unused in range(3):
                told = timed(net, acts)
                self.assertEqual(told, wanted)
                self.assertEqual(acts, kept)
                if told[0] != "act":
                    told[1].append("more")
                    told[1].reverse()
                    told[1].clear()

    def test_what_was_told_may_be_handed_in_again(self):
        net = read_net(one_room(["when x > 0, x < 1 do x = 0", "when y < 1"]))
        acts = [(0,)] * 39 + [(1,)]
        run = timed(net, acts)[1]
        self.assertEqual(len(ran(net, run)), 41)
        self.assertEqual(spent(net, run), (0, 1))
        self.assertTrue(is_fraction(lasts(run)))
        self.assertEqual(timed(net, [act for wait, act in run]), ("run", run))

    def test_two_nets_by_turns(self):
        one = read_net(machine("room r stay x <= 2/door r r when x >= 2", "watch x/"))
        other = read_net(machine("room r stay x <= 2/door r r when x >= 3", "watch x/"))
        third = read_net(machine("room r/room s/door r s"))
        for unused in range(3):
            self.assertEqual(timed(one, [(0,)]), ("run", [((2, 1), (0,))]))
            self.assertEqual(timed(other, [(0,)])[0], "ring")
            self.assertEqual(timed(third, [(0,), (0,)]), ("act", 1))


class Interface(unittest.TestCase):
    def test_names_and_arguments(self):
        self.assertEqual(str(inspect.signature(own.timed)), "(net, acts)")


if __name__ == "__main__":
    unittest.main()
