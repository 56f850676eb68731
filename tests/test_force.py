import copy
import inspect
import random
import unittest

from making import ask_of, ask_text, counter_faults, plan_faults, small_ask, small_yard, text_of, yard_of, yard_text

from watchyard import force as own
from watchyard.asks import mosts, read_ask
from watchyard.force import forced
from watchyard.reading import read_net
from watchyard.spots import acts_in, later, led, may_wait, spot_of, state_in
from watchyard.states import begun
from watchyard.ways import way_to

# A gate that needs two to be down, and a train, the weather's, that comes when it likes.
GATE = """watch x
watch y
machine train
room far
room near stay x <= {0}
room over
door far near weather do x = 0
door near over weather when x >= {0}
machine gate
room up
room going stay y <= {1}
room down
door up going do y = 0
door going down when y == {1}
"""


class Cases(unittest.TestCase):
    def told(self, text, asked, shunned=None):
        net = read_net(text)
        shun = None if shunned is None else read_ask(net, shunned)
        told = forced(net, read_ask(net, asked), shun)
        self.assertEqual((type(told), len(told), type(told[1])), (tuple, 2, list))
        if shunned is None:
            self.assertEqual(forced(net, read_ask(net, asked)), told)
        return told

    def start(self, text, *asks):
        net = read_net(text)
        return spot_of(mosts(net, [read_ask(net, ask) for ask in asks if ask is not None]), begun(net))

    def assertPlan(self, text, asked, shunned=None, rank=None, word=None):
        """The words of the plan by spot; looked through entry by entry, the start's rank and word, too."""
        name, plan = self.told(text, asked, shunned)
        self.assertEqual(name, "plan")
        self.assertEqual(plan_faults(yard_of(text), ask_of(asked), shunned and ask_of(shunned), plan), [])
        self.assertTrue(all(type(entry) is tuple and len(entry) == 3 for entry in plan))
        found = {spot: (height, told) for spot, height, told in plan}[self.start(text, asked, shunned)]
        if rank is not None:
            self.assertEqual(found[0], rank)
        if word is not None:
            self.assertEqual(found[1], word)
        return {spot: told for spot, height, told in plan}

    def assertCounter(self, text, asked, shunned=None, word=None):
        """The words of the counter-plan by spot; looked through entry by entry, the start's word, too."""
        name, counter = self.told(text, asked, shunned)
        self.assertEqual(name, "counter")
        self.assertEqual(counter_faults(yard_of(text), ask_of(asked), shunned and ask_of(shunned), counter), [])
        self.assertTrue(all(type(entry) is tuple and len(entry) == 2 for entry in counter))
        if word is not None:
            self.assertEqual(dict(counter)[self.start(text, asked, shunned)], word)
        return dict(counter)


class Alone(Cases):
    """Nets without a door of the weather's."""

    def test_met_at_the_start(self):
        text = text_of("watch x/box b 0 2 1/machine m/room r/room s/door r s")
        for asked in ("m at r", "x == 0", "b == 1, x < 1", "m at s; m at r"):
            self.assertPlan(text, asked, None, 0, ("met",))

    def test_acts(self):
        text = text_of("machine m/room r/room s/room t/door r s/door s t/door r r")
        self.assertPlan(text, "m at s", None, 1, ("go", (0,)))
        self.assertPlan(text, "m at t", None, 2, ("go", (0,)))
        self.assertPlan(text, "m at t", "m at t, m at s", 2, ("go", (0,)))
        self.assertCounter(text, "m at r, m at s", None, ("let",))
        self.assertCounter(text, "m at t", "m at s", ("let",))

    def test_waits(self):
        text = text_of("watch x/machine m/room r stay x <= 3/room s/door r s when x >= 3")
        self.assertPlan(text, "x > 1", None, None, ("wait",))
        self.assertPlan(text, "m at s", None, None, ("wait",))
        self.assertPlan(text, "m at s, x > 60", None, None, ("wait",))
        self.assertCounter(text, "m at r, x > 3", None, ("let",))
        self.assertCounter(text, "m at s, x < 3", None, ("let",))

    def test_a_long_wait(self):
        words = self.assertPlan(text_of("watch x/machine m/room r"), "x >= 60", None, 120, ("wait",))
        self.assertEqual(len(words), 121)

    def test_rooms_that_hurry(self):
        text = text_of("watch x/machine m/room r hurry/room s/door r s")
        self.assertPlan(text, "m at s, x > 0", None, 2, ("go", (0,)))
        self.assertCounter(text_of("watch x/machine m/room r hurry/room s"), "m at s; x > 0", None, ("let",))

    def test_as_what_can_be_met(self):
        chance = random.Random(1)
        seen = {"plan": 0, "counter": 0}
        for unused in range(150):
            yard = small_yard(chance, 2, 0)
            net = read_net(yard_text(yard))
            ask = read_ask(net, ask_text(small_ask(chance, yard, 2)))
            word = {"met": "plan", "never": "counter"}[way_to(net, ask)[0]]
            self.assertEqual(forced(net, ask)[0], word)
            seen[word] += 1
        self.assertGreater(min(seen.values()), 40)


class Weather(Cases):
    def test_doors_of_its_own_are_not_ours(self):
        text = text_of("machine m/room r/room s/door r s weather")
        self.assertCounter(text, "m at s", None, ("let",))
        self.assertPlan(text, "m at r", None, 0, ("met",))

    def test_it_goes_first(self):
        rows = "watch x/machine m/room r/room s/room t/door r s when x >= 2/door r t weather when x {}"
        for sign in (">= 3", "> 2", "> 60"):
            self.assertPlan(text_of(rows.format(sign)), "m at s", None, None, ("wait",))
        for sign in (">= 2", "== 2", "<= 2", "> 1", "< 60"):
            self.assertCounter(text_of(rows.format(sign)), "m at s")
        self.assertCounter(text_of(rows.format("== 0")), "m at s", None, ("cut", (1,)))
        self.assertCounter(text_of(rows.format(">= 1")), "m at s", None, ("let",))

    def test_it_may_do_no_harm(self):
        text = text_of("watch x/machine m/room r/room s/room t/door r s when x >= 2/door r t weather/door t s")
        self.assertPlan(text, "m at s")
        self.assertPlan(text, "m at s, x <= 2")
        self.assertCounter(text, "m at s, x >= 2", "m at t")
        # Round and round: it never lets us out.
        text = text_of("watch x/machine m/room r/room s/room t/door r s when x >= 2/door r t weather/door t r do x = 0")
        self.assertCounter(text, "m at s")
        text = text_of("watch x/box b 0 3 0/machine m/room r/room s/room t/door r s when x >= 2/"
                       "door r t weather do b + 1/door t r do x = 0")
        self.assertPlan(text, "m at s")
        self.assertPlan(text, "m at s", "b > 3")
        self.assertCounter(text, "m at s", "b == 3")

    def test_each_of_its_acts(self):
        rows = "watch x/machine m/room r/room s/room t/room u/door r s/door r t weather/door r u weather when x {} 1"
        self.assertPlan(text_of(rows.format("<")), "m at s; m at t; m at u", None, 1, ("go", (0,)))
        self.assertCounter(text_of(rows.format("<")), "m at s; m at t", None, ("cut", (2,)))
        self.assertCounter(text_of(rows.format("<")), "m at s; m at u", None, ("cut", (1,)))
        self.assertPlan(text_of(rows.format(">=")), "m at s; m at t", None, 1, ("go", (0,)))
        self.assertCounter(text_of(rows.format(">=")), "m at t", None, ("let",))
        self.assertCounter(text_of(rows.format(">=")), "m at s; m at t", "x == 0")

    def test_acts_of_two_doors(self):
        rows = ("watch x/machine m/room r/room s/door r s{} say go when x >= 1/"
                "machine n/room r/room s/room t/door r s{} hear go/door r t weather when x > 1")
        self.assertPlan(text_of(rows.format("", "")), "m at s, n at s")
        for one, other in ((" weather", ""), ("", " weather"), (" weather", " weather")):
            self.assertCounter(text_of(rows.format(one, other)), "m at s, n at s")
        self.assertPlan(text_of(rows.format("", "")), "n at s", "n at t")
        self.assertCounter(text_of(rows.format("", "")), "n at s, x > 1, m at r; n at t")
        words = self.assertPlan(text_of(rows.format("", "")), "m at s, n at s", "x > 1")
        self.assertEqual([word for word in words.values() if word[0] == "go"], [("go", (0, 1))])

    def test_a_number_more_or_less(self):
        for far in (1, 2, 3, 4):
            for long in (1, 2, 3, 4):
                text = GATE.format(far, long)
                # While the train is near we have as much time as it is: at the last moment it goes first.
                shunned = "train at over, gate at up; train at over, gate at going"
                wins = self.told(text, "gate at down", shunned)[0]
                self.assertEqual(wins, "plan" if long < far else "counter", (far, long))
                if wins == "plan":
                    self.assertPlan(text, "gate at down", shunned)
                else:
                    self.assertCounter(text, "gate at down", shunned)

    def test_the_weather_needs_not_come(self):
        text = GATE.format(2, 1).replace("room going stay y <= 1", "room going")
        self.assertCounter(text, "train at near", None, ("let",))
        self.assertCounter(text, "train at over", None, ("let",))
        # Where the gate stands at the end of its stay, no wait may be done, and the weather has to.
        words = self.assertPlan(GATE.format(2, 1), "train at over")
        self.assertIn(("yield",), words.values())


class Yield(Cases):
    def test_where_it_wins(self):
        text = text_of("watch x/machine m/room r hurry/room s/door r s weather")
        self.assertPlan(text, "m at s", None, 1, ("yield",))
        text = text_of("watch x/machine m/room r hurry/room s hurry/room t/door r s weather/door s t weather/door r t")
        self.assertPlan(text, "m at t, x > 0", "m at r, x > 0")
        # Where each of its acts will do.
        text = text_of("machine m/room r hurry/room s/room t/room u/door r s weather/door r t weather")
        self.assertPlan(text, "m at s; m at t", None, 1, ("yield",))
        self.assertCounter(text, "m at s", None, ("cut", (1,)))

    def test_at_the_end_of_a_stay(self):
        rows = "watch x/machine m/room r stay x {} 2/room s/door r s weather when x {} 2"
        words = self.assertPlan(text_of(rows.format("<=", "==")), "m at s", None, 5, ("wait",))
        self.assertEqual(words[(("r",), (), ((2, 0),))], ("yield",))
        self.assertPlan(text_of(rows.format("<=", "<=")), "m at s")
        # It is never come to where time always goes by ahead of it, and needs do nothing there.
        words = self.assertCounter(text_of(rows.format("<", "<")), "m at s", None, ("let",))
        self.assertEqual(words[(("r",), (), ((1, 1),))], ("let",))
        # It has no act there.
        words = self.assertCounter(text_of(rows.format("<=", "<")), "m at s", None, ("let",))
        self.assertEqual(words[(("r",), (), ((2, 0),))], ("let",))

    def test_where_a_wait_may_be_done(self):
        self.assertCounter(text_of("watch x/machine m/room r/room s/door r s weather"), "m at s", None, ("let",))
        self.assertCounter(text_of("machine m/room r/room s/door r s weather"), "m at s", None, ("let",))

    def test_where_the_weather_has_no_act(self):
        self.assertCounter(text_of("machine m/room r hurry/room s/door s r weather"), "m at s", None, ("let",))
        text = text_of("watch x/machine m/room r hurry/room s/door r s weather when x > 0")
        self.assertCounter(text, "m at s", None, ("let",))


class Shun(Cases):
    TEXT = text_of("watch x/machine m/room r/room s/room t/door r s when x > 1/door s t/door r t when x > 2")

    def test_none(self):
        self.assertPlan(self.TEXT, "m at t")

    def test_met_at_the_start(self):
        for shunned in ("m at r", "x == 0", "m at t; x < 1"):
            self.assertCounter(self.TEXT, "m at t", shunned, ("lost",))
            self.assertCounter(self.TEXT, "m at r", shunned, ("lost",))

    def test_the_ask_itself(self):
        for asked in ("m at t", "m at r", "x > 1", "x == 0"):
            self.assertCounter(self.TEXT, asked, asked)
        net = read_net(self.TEXT)
        ask = read_ask(net, "m at t")
        self.assertEqual(forced(net, ask, ask)[0], "counter")

    def test_on_the_way(self):
        self.assertPlan(self.TEXT, "m at t", "m at s")
        self.assertPlan(self.TEXT, "m at t", "x > 2")
        self.assertCounter(self.TEXT, "m at t", "m at s; m at r, x > 2")
        self.assertCounter(self.TEXT, "m at t", "x == 1")
        self.assertPlan(self.TEXT, "m at t", "x == 2, m at r, m at s; x > 3")
        self.assertCounter(self.TEXT, "m at t", "x > 0, x < 1")

    def test_met_together_with_the_ask(self):
        self.assertCounter(self.TEXT, "m at t", "m at t, x >= 0")
        self.assertPlan(self.TEXT, "m at t", "m at t, x <= 2")
        self.assertPlan(self.TEXT, "m at t", "m at t, x > 2")
        self.assertCounter(self.TEXT, "m at t, x <= 2", "m at t, x <= 2; x == 60")

    def test_its_numbers_are_looked_at(self):
        words = self.assertPlan(self.TEXT, "m at t", "x == 40", None, None)
        self.assertIn((("r",), (), ((39, 1),)), words)
        self.assertCounter(text_of("watch x/machine m/room r"), "x > 20", "x == 7")
        self.assertPlan(text_of("watch x/machine m/room r"), "x > 20", "x == 27")
        self.assertPlan(text_of("watch x/machine m/room r"), "x == 7", "x == 20")


class Any(Cases):
    def test_nets(self):
        chance = random.Random(2)
        words, ranks = {}, []
        for number in range(900):
            most = chance.choice([1, 2, 2, 3])
            yard = small_yard(chance, most, chance.choice([0.15, 0.3, 0.5]))
            net = read_net(yard_text(yard))
            asked = small_ask(chance, yard, most)
            shunned = small_ask(chance, yard, most) if number % 3 == 0 else None
            ask, shun = read_ask(net, ask_text(asked)), shunned and read_ask(net, ask_text(shunned))
            name, told = forced(net, ask, shun)
            if name == "plan":
                self.assertEqual(plan_faults(yard, asked, shunned, told), [])
                ranks += [rank for spot, rank, word in told]
            else:
                self.assertEqual((name, counter_faults(yard, asked, shunned, told)), ("counter", []))
            for entry in told:
                words[entry[-1][0]] = words.get(entry[-1][0], 0) + 1
        self.assertEqual(sorted(words), ["cut", "go", "let", "lost", "met", "wait", "yield"])
        self.assertGreater(min(words.values()), 15)
        self.assertGreater(max(ranks), 8)

    def test_by_the_programs_own_spots(self):
        chance = random.Random(3)
        for unused in range(150):
            yard = small_yard(chance, 2)
            net = read_net(yard_text(yard))
            ask, shun = [read_ask(net, ask_text(small_ask(chance, yard, 2))) for unused_either in range(2)]
            name, told = forced(net, ask, shun)
            entries = {entry[0]: entry[1:] for entry in told}
            self.assertEqual([entry[0] for entry in told], sorted(entries))
            self.assertIn(spot_of(mosts(net, [ask, shun]), begun(net)), entries)
            for spot in entries:
                self.assertEntry(net, mosts(net, [shun, ask]), ask, shun, name, entries, spot)

    def assertEntry(self, net, most, ask, shun, name, entries, spot):
        state, word = state_in(most, spot), entries[spot][-1]
        if shun.meets(state):
            self.assertEqual((name, word), ("counter", ("lost",)))
            return
        self.assertEqual(ask.meets(state), word == ("met",))
        goals = {act: led(net, most, spot, act) for act in acts_in(net, most, spot)}
        theirs = [goals[act] for act in goals if net.is_weather(act)]
        after = later(net, most, spot)
        if name == "plan" and word != ("met",):
            chosen = {"wait": [after], "yield": theirs[:1], "go": [goals[word[-1]]] if word[0] == "go" else []}[word[0]]
            self.assertEqual(len(chosen), 1)
            self.assertTrue(all(entries[goal][0] < entries[spot][0] for goal in theirs + chosen))
            self.assertFalse(word == ("yield",) and may_wait(net, most, spot))
            self.assertFalse(word[0] == "go" and net.is_weather(word[1]))
        if word[0] == "cut":
            self.assertTrue(net.is_weather(word[1]))
            self.assertIn(goals[word[1]], entries)
        if word == ("let",):
            ours = [goals[act] for act in goals if not net.is_weather(act)]
            self.assertTrue(all(goal in entries for goal in ours + ([] if after is None else [after])))
            self.assertTrue(may_wait(net, most, spot) or not theirs)


class Faults(Cases):
    """What looks through plans and counter-plans would see a wrong one."""

    TEXT = text_of("watch x/machine m/room r stay x <= 1/room s/room t/door r s weather when x == 1/door s t/door r t "
                   "weather when x < 1")

    def test_plans(self):
        yard, asked = yard_of(self.TEXT), [[("m", "at", "t")]]
        plan = self.told(self.TEXT, "m at t")[1]
        self.assertEqual(plan_faults(yard, asked, None, plan), [])
        entries = {spot: (spot, rank, word) for spot, rank, word in plan}
        waits, yields, goes, met = [(("r",), (), ((0, 0),)), (("r",), (), ((1, 0),)), (("s",), (), ((1, 0),)),
                                    (("t",), (), ((1, 0),))]
        wanted = {waits: ("wait",), yields: ("yield",), goes: ("go", (1,)), met: ("met",)}
        self.assertEqual({spot: entries[spot][2] for spot in wanted}, wanted)
        for spot, rank, word in (
                (waits, 0, ("wait",)), (waits, 1, ("wait",)), (waits, 0, ("met",)), (waits, 9, ("yield",)),
                (waits, 9, ("go", (1,))), (waits, 9, ("go", (2,))), (waits, 9, ("met",)), (yields, 9, ("yield",)),
                (yields, 2, ("wait",)), (yields, 2, ("go", (0,))), (yields, 1, ("yield",)), (goes, 9, ("go", (1,))),
                (goes, 1, ("go", (0,))), (goes, 1, ("yield",)), (goes, 1, ("wait",)), (goes, 1, ("let",)),
                (met, 1, ("met",)), (met, 0, ("wait",)), (met, True, ("met",))):
            wrong = [entry if entry[0] != spot else (spot, rank, word) for entry in plan]
            self.assertNotEqual(plan_faults(yard, asked, None, wrong), [], (spot, rank, word))
        for spot in wanted:
            self.assertNotEqual(plan_faults(yard, asked, None, [entry for entry in plan if entry[0] != spot]), [])
        self.assertNotEqual(plan_faults(yard, asked, None, plan[::-1]), [])
        self.assertNotEqual(plan_faults(yard, asked, None, plan + plan[-1:]), [])
        self.assertNotEqual(plan_faults(yard, asked, [[("m", "at", "s")]], plan), [])

    def test_counters(self):
        yard, asked = yard_of(self.TEXT), [[("m", "at", "s"), ("x", "<", 1)]]
        counter = self.told(self.TEXT, "m at s, x < 1")[1]
        self.assertEqual(counter_faults(yard, asked, None, counter), [])
        start, after, still = [(("r",), (), (place,)) for place in ((0, 0), (0, 1), (1, 0))]
        for spot, word in ((start, ("lost",)), (start, ("cut", (1,))), (start, ("cut", (0,))), (start, ("wait",)),
                           (start, ("met",)), (still, ("let",)), (still, ("cut", (2,)))):
            wrong = [entry if entry[0] != spot else (spot, word) for entry in counter]
            self.assertNotEqual(counter_faults(yard, asked, None, wrong), [], (spot, word))
        letting = [entry if entry[0] != start else (start, ("let",)) for entry in counter]
        self.assertEqual(counter_faults(yard, asked, None, letting), [])
        self.assertNotEqual(counter_faults(yard, asked, None, [entry for entry in letting if entry[0] != after]), [])
        self.assertNotEqual(counter_faults(yard, asked, None, counter[1:]), [])
        self.assertNotEqual(counter_faults(yard, asked, None, counter[::-1]), [])
        self.assertNotEqual(counter_faults(yard, [[("m", "at", "r")]], None, counter), [])
        self.assertNotEqual(counter_faults(yard, asked, [[("m", "at", "r")]], counter), [])


class Asked(Cases):
    def test_what_is_told_is_the_askers(self):
        for asked, shunned in (("gate at down", None), ("gate at down", "train at over"), ("train at over", None)):
            net = read_net(GATE.format(3, 1))
            ask, shun = read_ask(net, asked), shunned and read_ask(net, shunned)
            wanted = copy.deepcopy(forced(net, ask, shun))
            for unused in range(3):
                told = forced(net, ask, shun)
                self.assertEqual(told, wanted)
                told[1].reverse()
                told[1].clear()

    def test_by_turns(self):
        one, other = read_net(GATE.format(3, 2)), read_net(GATE.format(3, 4))
        asks = [[read_ask(net, each) for each in ("gate at down", "train at over, gate at going; train at over, "
                                                  "gate at up")] for net in (one, other)]
        wanted = (forced(one, *asks[0]), forced(other, *asks[1]))
        self.assertEqual((wanted[0][0], wanted[1][0]), ("plan", "counter"))
        for unused in range(2):
            self.assertEqual((forced(one, *asks[0]), forced(other, *asks[1])), wanted)
        self.assertEqual(forced(one, asks[0][0])[0], "plan")
        self.assertEqual(forced(one, *asks[0]), wanted[0])


class Interface(unittest.TestCase):
    def test_names_and_arguments(self):
        self.assertEqual(str(inspect.signature(own.forced)), "(net, ask, shun=None)")


if __name__ == "__main__":
    unittest.main()
