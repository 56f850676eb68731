import copy
import inspect
import math
import random
import unittest
from fractions import Fraction

from making import SIXTY, Looked, ask_of, ask_text, keeps_from, pair_of, pairs_of, small_ask, small_yard, text_of
from making import values_shown, yard_acted, yard_acts, yard_is_weather, yard_may_wait, yard_meets, yard_mosts, yard_of
from making import yard_spot, yard_start, yard_text, yard_waited

from watchyard import plays as own
from watchyard.asks import mosts, read_ask
from watchyard.errors import NoMove, WatchError
from watchyard.force import forced
from watchyard.plays import play_counter, play_plan
from watchyard.reading import read_net
from watchyard.runs import ran
from watchyard.spots import spot_of

NO_WISHES = (
    (), ((0, 1),), ((0, 1), (), ()), [(0, 1), ()], [], {}, 0, 1, True, False, "", "wait", (0, ()), (1, ()), (None, ()),
    (None, None), ("(0, 1)", ()), ((0, 2), ()), ((0, -1), ()), ((0,), ()), ((0, 1, 1), ()), ([0, 1], ()), (0.0, ()),
    ((False, 1), ()), ((0, True), ()), ((0.0, 1), ()), ((), ()), ((0, 0), ()), ((-1, 1), ()), ((-1, SIXTY), ()),
    object(), frozenset(), ((0, 1), None), ((0, 1), []), ((0, 1), 0), ((0, 1), "()"), ((0, 1), False), ((0, 1), {}),
    ((0, 1), ((),)), ((0, 1), (None,)), ((0, 1), (True,)), ((0, 1), (99,)), ((0, 1), (-1,)), ((0, 1), (0, 0)),
    ((0, 1), (0.0,)), ((0, 1), [0]), ((0, 1), ("0",)), ((0, 1), (10 ** 60,)))


def moments_from(most, values):
    """How long it is to each time at which a watch shows a whole number up to its greatest, the least first."""
    return sorted({whole - value for number, value in zip(most, values)
                   for whole in range(math.ceil(value), number + 1)})


def stretches(most, values):
    """Tuples (begin, end) of what lies ahead: moments, and what lies between them; None for no end."""
    told, moments = [], moments_from(most, values)
    if moments[:1] != [0]:
        told.append((Fraction(0), moments[0] if moments else None))
    for moment, after in zip(moments, moments[1:] + [None]):
        told += [(moment, moment), (moment, after)]
    return told


def state_after(state, wait):
    return (state[0], state[1], pairs_of([value + wait for value in values_shown(state)]))


def done(yard, state, entry):
    """The state behind the entry, None where it can't be done."""
    state = yard_waited(yard, state, entry[0])
    return state if state is None or entry[1] == () else yard_acted(yard, state, entry[1])


def weather_acts(yard, state):
    return [act for act in yard_acts(yard) if yard_is_weather(yard, act) and yard_acted(yard, state, act) is not None]


def mosts_of(yard, asked, shunned):
    return yard_mosts(yard, [asked] if shunned is None else [asked, shunned])


def plan_reckoned(yard, asked, shunned, plan, replies):
    """The run that the document tells, reckoned without the program."""
    most = mosts_of(yard, asked, shunned)
    words = {spot: word for spot, rank, word in plan}
    state, run = yard_start(yard), []
    while not yard_meets(yard, asked, state):
        word = words[yard_spot(most, state)]
        reply = replies[len(run)] if len(run) < len(replies) else None
        wait, act = Fraction(0), word[-1]
        if word == ("wait",):
            begin, end = stretches(most, values_shown(state))[1]
            wait, act = begin, ()
            if end != begin:
                wait = begin + 1 if end is None else (begin + end) / 2
        if word == ("yield",):
            act = weather_acts(yard, state)[(reply or (0, 0))[1] % len(weather_acts(yard, state))]
        elif reply is not None:
            then = wait * Fraction(*reply[0])
            ways = weather_acts(yard, state_after(state, then))
            between = [state_after(state, then * step / 12) for step in range(13)]
            if ways and not any(yard_meets(yard, asked, each) for each in between):
                wait, act = then, ways[reply[1] % len(ways)]
        run.append((pair_of(wait), act))
        state = done(yard, state, run[-1])
    return run


def may_tell(yard, state, wish):
    if wish is None:
        return not yard_may_wait(yard, state)
    if type(wish) is not tuple or len(wish) != 2 or type(wish[0]) is not tuple or type(wish[1]) is not tuple:
        return False
    if len(wish[0]) != 2 or any(type(part) is not int for part in wish[0] + wish[1]):
        return False
    if wish[0][1] < 1 or math.gcd(*wish[0]) != 1 or yard_waited(yard, state, wish[0]) is None:
        return False
    if wish[1] != () and (wish[1] not in yard_acts(yard) or yard_is_weather(yard, wish[1])):
        return False
    return done(yard, state, wish) is not None


def stop_reckoned(most, words, state, wait):
    """Where our wait ends: a tuple (wait, word, how), the word None where it is done whole."""
    for number, (begin, end) in enumerate(stretches(most, values_shown(state))):
        if begin > wait or (begin == wait and end != begin and number > 0):
            break
        last = wait if end is None else min(wait, end)
        at = begin if number == 0 else (begin + last) / 2
        word = words[yard_spot(most, state_after(state, at))]
        if word != ("let",):
            how = "begin" if number == 0 else "moment" if begin == end else "through" if last == end else "in"
            return (at, word, how)
    return (wait, None, "whole")


def counter_reckoned(yard, asked, shunned, counter, wishes, seen):
    """What the document tells of the play, NoMove's number for a refusal; how rounds went is counted in seen."""
    most, words = mosts_of(yard, asked, shunned), dict(counter)
    state, run = yard_start(yard), []
    for number, wish in enumerate(wishes):
        if words[yard_spot(most, state)] == ("lost",):
            return (run, "lost")
        if not may_tell(yard, state, wish):
            return number
        if wish is None and not weather_acts(yard, state):
            return (run, "ended")
        wait, word, how = stop_reckoned(most, words, state, Fraction(0) if wish is None else Fraction(*wish[0]))
        act = wish[1] if word is None else () if word == ("lost",) else word[1]
        kind = (how, "yield" if wish is None else "whole" if word is None else word[0])
        seen[kind] = seen.get(kind, 0) + 1
        run.append((pair_of(wait), act))
        state = done(yard, state, run[-1])
    return (run, "lost" if words[yard_spot(most, state)] == ("lost",) else "kept")


class Cases(unittest.TestCase):
    def read(self, text, asked, shunned, name):
        """The net, the ask, the shun and what was told of them."""
        net = read_net(text)
        asks = (read_ask(net, asked), None if shunned is None else read_ask(net, shunned))
        told = forced(net, *asks)
        self.assertEqual(told[0], name)
        return (net,) + asks + (told[1],)


class Plan(Cases):
    def assertPlayed(self, text, asked, replies, run=None, shunned=None):
        net, ask, shun, plan = self.read(text, asked, shunned, "plan")
        told = play_plan(net, ask, shun, plan, replies)
        self.assertIs(type(told), list)
        yard = yard_of(text)
        self.assertEqual(told, plan_reckoned(yard, ask_of(asked), shunned and ask_of(shunned), plan, replies))
        self.assertWon(net, ask, shun, plan, told)
        if run is not None:
            self.assertEqual(told, run)
        return told

    def assertWon(self, net, ask, shun, plan, run):
        states = ran(net, run)
        self.assertEqual([ask.meets(state) for state in states], [False] * len(run) + [True])
        self.assertFalse(shun is not None and any(shun.meets(state) for state in states))
        start = spot_of(mosts(net, [ask] if shun is None else [ask, shun]), states[0])
        self.assertLessEqual(len(run), {spot: rank for spot, rank, word in plan}[start])

    GO = text_of("machine m/room r/room s/room t/door r s/door r t weather/door r t weather/door t s")

    def test_won_at_the_start(self):
        for replies in ([], [None], [((1, 2), 3)] * 60):
            self.assertPlayed(self.GO, "m at r", replies, [])

    def test_no_reply_and_replies_that_let_it_be(self):
        for replies in ([], [None], [None] * 60):
            self.assertPlayed(self.GO, "m at s", replies, [((0, 1), (0,))])

    def test_cutting_in_ahead_of_our_act(self):
        for e in ((0, 1), (1, 2), (1, 1)):
            for k, act in ((0, (1,)), (1, (2,)), (2, (1,)), (3, (2,)), (10 ** 59, (1,)), (SIXTY, (2,))):
                self.assertPlayed(self.GO, "m at s", [(e, k)], [((0, 1), act), ((0, 1), (3,))])
        # It has no act in the second round.
        self.assertPlayed(self.GO, "m at s", [((1, 1), 1), ((1, 1), 1)], [((0, 1), (2,)), ((0, 1), (3,))])
        self.assertPlayed(self.GO, "m at s", [None, ((1, 1), 1)], [((0, 1), (0,))])

    def test_the_last_cell_without_a_next_one(self):
        text = text_of("watch x/machine m/room r")
        self.assertPlayed(text, "x > 0", [], [((1, 1), ())])
        self.assertPlayed(text, "x > 1", [None], [((1, 2), ()), ((1, 2), ()), ((1, 1), ())])

    def test_moments_and_half_of_the_way(self):
        text = text_of("watch x/watch y/machine m/room r")
        self.assertPlayed(text, "x == 2", [], [((1, 2), ())] * 4)
        # The weather stops on the way: what is left of the cell is another half.
        text = text_of("watch x/watch y/machine m/room r/room s/door r s weather do y = 0")
        run = self.assertPlayed(text, "x == 1, y < 1; x == 1, y == 1", [((1, 3), 0)])
        self.assertEqual(run, [((1, 6), (0,)), ((5, 12), ()), ((5, 12), ())])

    def test_cutting_in_on_the_way(self):
        text = text_of("watch x/box b 0 3 0/machine m/room r stay x <= 1/room s/door r s when x == 1/"
                       "door r r weather when x {} do b + 1")
        # At the begin, between, at the whole wait.
        within = text.format("< 1")
        for e, wait in (((0, 1), (0, 1)), ((1, 5), (1, 10)), ((98, 99), (49, 99)), ((1, SIXTY), (1, 2 * SIXTY)),
                        ((1, 1), (1, 2))):
            run = self.assertPlayed(within, "m at s", [(e, 7)])
            self.assertEqual(run[0], (wait, (1,)))
            self.assertEqual(run[-1], ((0, 1), (0,)))
        # In the second round it is at 1/2, and has no act at 1.
        run = self.assertPlayed(within, "m at s", [None, ((1, 1), 0)])
        self.assertEqual(run, [((1, 2), ()), ((1, 2), ()), ((0, 1), (0,))])
        run = self.assertPlayed(within, "m at s", [None, ((1, 2), 0)])
        self.assertEqual(run, [((1, 2), ()), ((1, 4), (1,)), ((1, 4), ()), ((0, 1), (0,))])
        # It has one at 1 alone: cutting in ahead of it comes to nothing.
        at_last = text.format("== 1")
        run = self.assertPlayed(at_last, "m at s", [((1, 1), 0), ((99, 100), 0)])
        self.assertEqual(run, [((1, 2), ()), ((1, 2), ()), ((0, 1), (0,))])
        run = self.assertPlayed(at_last, "m at s", [((1, 1), 0), ((1, 1), 0), ((1, 2), 5)])
        self.assertEqual(run, [((1, 2), ()), ((1, 2), (1,)), ((0, 1), (1,)), ((0, 1), (0,))])
        # The box is full: it has none any more.
        run = self.assertPlayed(at_last, "m at s", [((1, 1), 0)] * 60)
        self.assertEqual(run, [((1, 2), ()), ((1, 2), (1,)), ((0, 1), (1,)), ((0, 1), (1,)), ((0, 1), (0,))])

    def test_the_wait_comes_to_what_was_asked_ahead_of_the_cutting_in(self):
        text = text_of("watch x/machine m/room r/room s/door r s weather when x {}")
        for e in ((1, SIXTY), (1, 2), (1, 1)):
            self.assertPlayed(text.format("> 0"), "m at r, x > 0", [(e, 0)], [((1, 1), ())])
        self.assertPlayed(text.format("> 0"), "m at r, x > 0", [((0, 1), 0)], [((1, 1), ())])
        # Where it may cut in at the begin of the wait, it is not so.
        run = self.assertPlayed(text.format(">= 0"), "x > 0", [((0, 1), 0)])
        self.assertEqual(run, [((0, 1), (0,)), ((1, 1), ())])
        run = self.assertPlayed(text.format(">= 0"), "x == 1", [((1, 1), 0), ((1, 1), 0)])
        self.assertEqual(run, [((1, 2), (0,)), ((1, 2), ())])
        run = self.assertPlayed(text.format(">= 0"), "x == 1", [None, ((1, 1), 0)])
        self.assertEqual(run, [((1, 2), ()), ((1, 2), ())])
        run = self.assertPlayed(text.format(">= 0"), "x == 1", [None, ((98, 99), 0)])
        self.assertEqual(run, [((1, 2), ()), ((49, 99), (0,)), ((1, 198), ())])

    def test_yielding(self):
        text = text_of("machine m/room r hurry/room s/room t/room u/door r s weather/door r t weather/door r u weather")
        asked = "m at s; m at t; m at u"
        for reply, act in ((None, (0,)), (((0, 1), 0), (0,)), (((1, 1), 1), (1,)), (((1, 2), 2), (2,)),
                           (((1, 1), 3), (0,)), (((1, 3), 10 ** 59), (1,)), (((0, 1), SIXTY), (0,))):
            self.assertPlayed(text, asked, [reply], [((0, 1), act)])
        self.assertPlayed(text, asked, [], [((0, 1), (0,))])
        text = text_of("watch x/machine m/room r stay x <= 1/room s hurry/room t/door r s weather when x == 1/"
                       "door s t weather/door s t weather")
        self.assertPlayed(text, "m at t", [((1, 1), 0), None, ((0, 1), 4), ((0, 1), 5)],
                          [((1, 2), ()), ((1, 2), ()), ((0, 1), (0,)), ((0, 1), (2,))])
        self.assertPlayed(text, "m at t", [((1, 1), 0), ((1, 1), 3), ((0, 1), 4)],
                          [((1, 2), ()), ((1, 2), (0,)), ((0, 1), (1,))])

    def test_acts_of_two_doors_in_order(self):
        text = text_of("machine m/room r/room s/door r s say go/door r s say go/machine n/room r/room s/"
                       "door r s weather hear go/door r s hear go/machine k/room r/room s/room t/door r s when b == 0/"
                       "door r s weather").replace("machine m", "box b 0 1 0\nmachine m", 1)
        for k, act in enumerate([(0, 2), (1, 2), (5,), (0, 2)]):
            self.assertPlayed(text, "k at s; n at s", [((1, 1), k)], [((0, 1), act)])

    def test_a_shun(self):
        text = text_of("watch x/box b 0 3 0/machine m/room r/room s/room t/door r s when x >= 1/"
                       "door r t weather when x > 2/door r r weather when x > 0 do b + 1")
        for replies in ([], [((1, 2), 0)] * 60, [((1, 1), 1)] * 60, [None, None, ((1, 1), 0)]):
            self.assertPlayed(text, "m at s", replies, None, "m at t; x == 7")

    def test_any(self):
        chance = random.Random(1)
        lengths, cuts, tried = [], 0, 0
        while tried < 400:
            most = chance.choice([1, 2, 3])
            yard = small_yard(chance, most, chance.choice([0.2, 0.4]))
            asked = small_ask(chance, yard, most)
            shunned = small_ask(chance, yard, most) if chance.random() < 0.3 else None
            net = read_net(yard_text(yard))
            ask, shun = read_ask(net, ask_text(asked)), shunned and read_ask(net, ask_text(shunned))
            name, plan = forced(net, ask, shun)
            if name != "plan" or not any(word[0] in ("wait", "yield") for spot, rank, word in plan):
                continue
            tried += 1
            for unused in range(3):
                replies = [self.some_reply(chance) for unused_either in range(chance.choice([0, 1, 5, 60]))]
                run = play_plan(net, ask, shun, plan, replies)
                self.assertEqual(run, plan_reckoned(yard, asked, shunned, plan, replies))
                self.assertWon(net, ask, shun, plan, run)
                lengths.append(len(run))
                cuts += sum(act != () and net.is_weather(act) for wait, act in run)
        self.assertGreater(max(lengths), 5)
        self.assertGreater(cuts, 150)

    def some_reply(self, chance):
        if chance.random() < 0.2:
            return None
        e = chance.choice([(0, 1), (1, 1), (1, 2), (1, 3), (5, 7), (1, SIXTY), (SIXTY - 1, SIXTY)])
        return (e, chance.choice([0, 1, 2, 3, chance.randint(0, SIXTY)]))


class Counter(Cases):
    def assertPlayed(self, text, asked, wishes, told, shunned=None):
        net, ask, shun, counter = self.read(text, asked, shunned, "counter")
        answer = play_counter(net, ask, shun, counter, wishes)
        self.assertEqual((type(answer), type(answer[0])), (tuple, list))
        yard, asks = yard_of(text), (ask_of(asked), shunned and ask_of(shunned))
        self.assertEqual(answer, counter_reckoned(yard, *asks, counter, wishes, {}))
        self.assertEqual(answer, told)
        self.assertKept(net, ask, shun, answer[0])

    def assertKept(self, net, ask, shun, run):
        for state in ran(net, run):
            self.assertFalse(ask.meets(state) and not (shun is not None and shun.meets(state)))

    def assertNoMove(self, text, asked, wishes, at, shunned=None):
        net, ask, shun, counter = self.read(text, asked, shunned, "counter")
        with self.assertRaises(WatchError) as caught:
            play_counter(net, ask, shun, counter, wishes)
        self.assertEqual((type(caught.exception), caught.exception.at), (NoMove, at), wishes)
        yard, asks = yard_of(text), (ask_of(asked), shunned and ask_of(shunned))
        self.assertEqual(counter_reckoned(yard, *asks, counter, wishes, {}), at)

    # Here the weather has to act at x == 1, or within a cell, or at once: else we come to s.
    ROWS = "watch x/machine m/room r/room s/room t/door r s when x >= 3/door r t weather when {}"
    MOMENT = text_of(ROWS.format("x == 1"))
    WITHIN = text_of(ROWS.format("x > 1, x < 2"))
    AT_ONCE = text_of(ROWS.format("x <= 0"))

    def test_no_wish(self):
        for text in (self.MOMENT, self.WITHIN, self.AT_ONCE):
            self.assertPlayed(text, "m at s", [], ([], "kept"))

    def test_at_a_moment(self):
        text = self.MOMENT
        self.assertPlayed(text, "m at s", [((3, 1), (0,))], ([((1, 1), (1,))], "kept"))
        self.assertPlayed(text, "m at s", [((7, 2), ())], ([((1, 1), (1,))], "kept"))
        self.assertPlayed(text, "m at s", [((1, 1), ())], ([((1, 1), (1,))], "kept"))
        self.assertPlayed(text, "m at s", [((98, 99), ())], ([((98, 99), ())], "kept"))
        self.assertPlayed(text, "m at s", [((1, 3), ()), ((60, 1), ()), ((1, 1), ())],
                          ([((1, 3), ()), ((2, 3), (1,)), ((1, 1), ())], "kept"))

    def test_within_a_cell(self):
        text = self.WITHIN
        # Gone through: half of the cell; ended in it: half of as much as the wait comes through.
        for wait in ((2, 1), (3, 1), (SIXTY, 2)):
            self.assertPlayed(text, "m at s", [(wait, ())], ([((3, 2), (1,))], "kept"))
        self.assertPlayed(text, "m at s", [((5, 4), ())], ([((9, 8), (1,))], "kept"))
        self.assertPlayed(text, "m at s", [((SIXTY + 2, SIXTY), ())], ([((SIXTY + 1, SIXTY), (1,))], "kept"))
        self.assertPlayed(text, "m at s", [((1, 1), ())], ([((1, 1), ())], "kept"))
        self.assertPlayed(text, "m at s", [((1, 2), ()), ((3, 2), ())], ([((1, 2), ()), ((1, 1), (1,))], "kept"))
        self.assertPlayed(text, "m at s", [((1, 1), ()), ((1, 3), ())], ([((1, 1), ()), ((1, 6), (1,))], "kept"))

    def test_in_the_last_cell(self):
        text = text_of("watch x/machine m/room r/room s/room t/door r s when x > 1/door r t weather when x > 1")
        self.assertPlayed(text, "m at s", [((5, 1), (0,))], ([((3, 1), (1,))], "kept"))
        self.assertPlayed(text, "m at s", [((1, 1), ()), ((10, 1), (0,))], ([((1, 1), ()), ((5, 1), (1,))], "kept"))

    def test_at_the_begin(self):
        text = self.AT_ONCE
        for wish in (((0, 1), ()), ((3, 1), ()), ((5, 1), (0,)), ((1, SIXTY), ())):
            self.assertPlayed(text, "m at s", [wish], ([((0, 1), (1,))], "kept"))
        # Come by an act into the midst of a cell.
        text = text_of("watch x/machine m/room r/room q/room s/room t/door r q when x > 0, x < 1/door q s when x == 1/"
                       "door q t weather when x < 1")
        self.assertPlayed(text, "m at s", [((1, 3), (0,)), ((2, 3), (1,))], ([((1, 3), (0,)), ((0, 1), (2,))], "kept"))
        self.assertPlayed(text, "m at s", [((1, 3), (0,)), ((0, 1), ()), ((9, 1), ())],
                          ([((1, 3), (0,)), ((0, 1), (2,)), ((9, 1), ())], "kept"))

    def test_our_acts_where_they_do_no_harm(self):
        text = text_of("watch x/machine m/room r/room q/room s/door r q do x = 0/door q r when x >= 2/door q q")
        wishes = [((1, 2), (0,)), ((5, 2), (1,)), ((0, 1), ()), ((3, 1), (0,)), ((0, 1), (2,))]
        self.assertPlayed(text, "m at s", wishes, (wishes, "kept"))
        wishes = [((1, 3), (0,)), ((2, 1), (1,))] * 30
        self.assertPlayed(text, "m at s", wishes, (wishes, "kept"))

    def test_lost_with_an_entry(self):
        text = text_of("watch x/machine m/room r/room s/door r s when x >= 3")
        for wait, end in (((3, 1), (3, 2)), ((2, 1), (3, 2)), ((5, 4), (9, 8))):
            self.assertPlayed(text, "m at s", [(wait, ())], ([(end, ())], "lost"), "x > 1, x < 2")
        self.assertPlayed(text, "m at s", [((3, 1), (0,)), 7, None], ([((3, 2), ())], "lost"), "x > 1, x < 2")
        self.assertPlayed(text, "m at s", [((3, 1), (0,))], ([((1, 1), ())], "lost"), "x == 1")
        self.assertPlayed(text, "m at s", [((1, 2), ()), ((1, 2), ()), ()], ([((1, 2), ())] * 2, "lost"), "x == 1")
        self.assertPlayed(text, "m at s", [((3, 1), ())], ([((3, 1), ())], "lost"), "x == 3")
        self.assertPlayed(text, "m at s", [((9, 1), ())], ([((1, 2), ())], "lost"), "x > 0")

    def test_lost_without_an_entry(self):
        text = text_of("watch x/machine m/room r/room s/door r s when x >= 3")
        for wishes in ([], [None], [((0, 1), ())], [7, None, ()], [((1, 1), (5,))]):
            self.assertPlayed(text, "m at s", wishes, ([], "lost"), "x == 0")
        # By the weather's act, by ours, and behind the last round.
        text = self.MOMENT
        for more in ([], [((0, 1), ())], [None], ["no wish"]):
            self.assertPlayed(text, "m at s", [((2, 1), ())] + more, ([((1, 1), (1,))], "lost"), "m at t")
        text = text_of("watch x/machine m/room r/room s/room t/door r t when x > 1")
        for more in ([], [((0, 1), ())], [None], [()]):
            self.assertPlayed(text, "m at s", [((2, 1), (0,))] + more, ([((2, 1), (0,))], "lost"), "m at t")

    def test_the_shun_stands_ahead_of_the_ask(self):
        text = text_of("watch x/machine m/room r/room s/door r s")
        self.assertPlayed(text, "m at s", [((0, 1), (0,)), 0], ([((0, 1), (0,))], "lost"), "m at s")
        self.assertPlayed(text, "x == 1", [((5, 1), ())], ([((1, 1), ())], "lost"), "x == 1; m at s")

    HURRY = text_of("watch x/machine m/room r hurry/room s/room t/room u hurry/door r t weather/door r u")

    def test_yielding(self):
        # Told where no wait above 0 may be done: the weather has an act, or none.
        self.assertPlayed(self.HURRY, "m at s", [None], ([((0, 1), (0,))], "kept"))
        self.assertPlayed(self.HURRY, "m at s", [None, ((4, 1), ())], ([((0, 1), (0,)), ((4, 1), ())], "kept"))
        text = text_of("watch x/machine m/room r hurry/room s/room u hurry/door r u/door s u weather")
        for more in ([], [None], [((1, 1), ())], [7]):
            self.assertPlayed(text, "m at s", [None] + more, ([], "ended"))
            self.assertPlayed(text, "m at s", [((0, 1), (0,)), None] + more, ([((0, 1), (0,))], "ended"))
            self.assertPlayed(text, "m at s", [((0, 1), ()), None] + more, ([((0, 1), ())], "ended"))
        text = text_of("watch x/machine m/room r stay x <= 1/room s/room t/door r t weather when x == 1")
        self.assertPlayed(text, "m at s", [((1, 2), ()), ((1, 2), ())], ([((1, 2), ()), ((1, 2), (0,))], "kept"))
        text = text_of("watch x/machine m/room r stay x <= 1/room s/door s r weather")
        self.assertPlayed(text, "m at s", [((1, 1), ()), None, None], ([((1, 1), ())], "ended"))

    def test_yielding_where_a_wait_may_be_done(self):
        self.assertNoMove(self.HURRY, "m at s", [None, None], 1)
        text = text_of("watch x/machine m/room r stay x {} 1/room s/door s r weather")
        self.assertNoMove(text.format("<="), "m at s", [None], 0)
        self.assertNoMove(text.format("<="), "m at s", [((1, 2), ()), None], 1)
        self.assertNoMove(text.format("<"), "m at s", [((SIXTY - 1, SIXTY), ()), None], 1)
        self.assertNoMove(text_of("machine m/room r/room s"), "m at s", [((9, 1), ()), ((0, 1), ()), None], 2)

    def test_things_that_are_no_wish(self):
        text = text_of("watch x/machine m/room r/room s/door r r/door r r weather when x > 5/door s r weather")
        self.assertPlayed(text, "m at s", [((0, 1), (0,)), ((0, 1), ())], ([((0, 1), (0,)), ((0, 1), ())], "kept"))
        for number in (0, 1, 3):
            for thing in NO_WISHES + (None,):
                self.assertNoMove(text, "m at s", [((1, 3), ())] * number + [thing], number)
                self.assertNoMove(text, "m at s", [((1, 3), ())] * number + [thing, ((1, 1), ())], number)
        self.assertNoMove(text, "m at s", [((0, 1), (9,)), 7], 0)

    def test_waits_that_may_not_be_done(self):
        text = text_of("watch x/machine m/room r stay x {} 2/room s/room t/door r t weather when x == 1")
        for sign in ("<=", "<"):
            for wait in ((3, 1), (2 * SIXTY + 1, SIXTY), (SIXTY, 1)):
                self.assertNoMove(text.format(sign), "m at s", [(wait, ())], 0)
                self.assertNoMove(text.format(sign), "m at s", [((1, 2), ()), (wait, ())], 1)
        # Also where the weather would have cut it short ahead of that.
        net = self.read(text.format("<="), "m at s", None, "counter")
        self.assertIn(("cut", (0,)), [word for spot, word in net[3]])
        self.assertPlayed(text.format("<="), "m at s", [((2, 1), ())], ([((1, 1), (0,))], "kept"))
        self.assertNoMove(text.format("<"), "m at s", [((2, 1), ())], 0)
        self.assertNoMove(self.HURRY, "m at s", [((1, SIXTY), ())], 0)
        self.assertNoMove(self.HURRY, "m at s", [((1, 1), (1,))], 0)
        self.assertNoMove(self.HURRY, "m at s", [((0, 1), (0,))], 0)

    def test_acts_that_may_not_be_done_behind_the_whole_wait(self):
        text = text_of("watch x/machine m/room r/room s/room t/door r r when x <= 2/door r t weather when x == 1/"
                       "door t t")
        self.assertPlayed(text, "m at s", [((2, 1), (0,))], ([((1, 1), (1,))], "kept"))
        self.assertNoMove(text, "m at s", [((3, 1), (0,))], 0)
        self.assertNoMove(text, "m at s", [((1, 2), (0,)), ((5, 1), (0,))], 1)
        # The weather's, those of another room, also those that might be done behind its cutting in.
        self.assertNoMove(text, "m at s", [((1, 1), (1,))], 0)
        self.assertNoMove(text, "m at s", [((0, 1), (1,))], 0)
        self.assertNoMove(text, "m at s", [((3, 1), (2,))], 0)
        self.assertNoMove(text, "m at s", [((1, 2), ()), ((0, 1), (2,))], 1)
        # Of two doors, one of them the weather's.
        text = text_of("machine m/room r/room s/door r r say go/machine n/room r/room s/door r r weather hear go/"
                       "door r r hear go")
        self.assertPlayed(text, "m at s", [((1, 1), ())], ([((0, 1), (0, 1))], "kept"))
        self.assertPlayed(text, "m at s", [((1, 1), (0, 2))], ([((0, 1), (0, 1))], "kept"))
        for act in ((0, 1), (0,), (1, 0), (2, 0), (0, 0)):
            self.assertNoMove(text, "m at s", [((1, 1), act)], 0)

    def test_the_weather_goes_first_where_our_wait_ends(self):
        text = self.MOMENT.replace("x >= 3", "x >= 1")
        self.assertPlayed(text, "m at s", [((1, 1), (0,))], ([((1, 1), (1,))], "kept"))

    def test_any(self):
        chance = random.Random(2)
        seen, words, refused, tried = {}, {}, 0, 0
        while tried < 350:
            most = chance.choice([1, 2, 3])
            yard = small_yard(chance, most, chance.choice([0.2, 0.4]))
            asked = small_ask(chance, yard, most)
            shunned = small_ask(chance, yard, most) if chance.random() < 0.5 else None
            if yard["watches"] and chance.random() < 0.3:
                sign = chance.choice(["==", ">", ">="])
                shunned = [[(chance.choice(yard["watches"]), sign, chance.randint(1, most))]]
            net = read_net(yard_text(yard))
            ask, shun = read_ask(net, ask_text(asked)), shunned and read_ask(net, ask_text(shunned))
            name, counter = forced(net, ask, shun)
            if name != "counter" or len({word for spot, word in counter}) < 2:
                continue
            tried += 1
            counter = self.let_more(chance, yard, asked, shunned, counter)
            wishes = self.some_wishes(chance, yard, asked, shunned, counter)
            for some in (wishes, wishes + [chance.choice(NO_WISHES)], wishes + [((61, 1), ())]):
                wanted = counter_reckoned(yard, asked, shunned, counter, some, seen)
                if type(wanted) is int:
                    refused += 1
                    with self.assertRaises(NoMove) as caught:
                        play_counter(net, ask, shun, counter, some)
                    self.assertEqual(caught.exception.at, wanted)
                else:
                    told = play_counter(net, ask, shun, counter, some)
                    self.assertEqual(told, wanted)
                    self.assertKept(net, ask, shun, told[0])
                    words[told[1]] = words.get(told[1], 0) + 1
        self.assertGreater(refused, 100)
        self.assertEqual(sorted(words), ["ended", "kept", "lost"])
        self.assertGreater(min(words.values()), 20)
        for kind in (("begin", "cut"), ("begin", "yield"), ("moment", "cut"), ("through", "cut"), ("in", "cut"),
                     ("moment", "lost"), ("through", "lost"), ("in", "lost"), ("whole", "whole")):
            self.assertGreater(seen.get(kind, 0), 5, kind)

    def let_more(self, chance, yard, asked, shunned, counter):
        """The counter-plan with fewer cuts, where it is one all the same: so that waits come further."""
        looked, spots = Looked(yard, [asked] + ([] if shunned is None else [shunned])), dict(counter)
        told = []
        for spot, word in counter:
            lets = word[0] == "cut" and chance.random() < 0.8 and keeps_from(looked, spots, spot, ("let",))
            told.append((spot, ("let",) if lets else word))
        return told

    def some_wishes(self, chance, yard, asked, shunned, counter):
        """Wishes that we may tell, as far as the play goes."""
        most, wishes = mosts_of(yard, asked, shunned), []
        while len(wishes) < 6:
            run, word = counter_reckoned(yard, asked, shunned, counter, wishes, {})
            if word != "kept":
                return wishes
            state = yard_start(yard)
            for entry in run:
                state = done(yard, state, entry)
            waits = [pair_of(moment) for moment in moments_from(most, values_shown(state))[:3]]
            waits += [pair_of(Fraction(*wait) + Fraction(1, 3)) for wait in waits]
            waits += [(0, 1), (1, 2), (5, 1), (1, SIXTY)]
            wishes_here = [(wait, act) for wait in waits for act in [()] + yard_acts(yard)] + [None]
            wishes.append(chance.choice([wish for wish in wishes_here if may_tell(yard, state, wish)]))
        return wishes


class Asked(Cases):
    TEXT = text_of("watch x/machine m/room r stay x <= 2/room s/room t/door r s when x == 2/"
                   "door r t weather when x {} 2/door t s")
    REPLIES = [None, ((1, 2), 1), ((1, 1), 0), ((1, 3), 5)]
    WISHES = [((1, 2), ()), ((3, 2), (0,)), ((0, 1), ())]

    def all_told(self, text, asked, shunned):
        net = read_net(text)
        ask, shun = read_ask(net, asked), shunned and read_ask(net, shunned)
        name, told = forced(net, ask, shun)
        moves = list(self.REPLIES if name == "plan" else self.WISHES)
        kept = copy.deepcopy((told, moves))
        played = (play_plan if name == "plan" else play_counter)(net, ask, shun, told, moves)
        self.assertEqual((told, moves), kept)
        return (name, played)

    def test_what_is_told_is_the_askers(self):
        for shunned in (None, "m at t"):
            for sign in ("==", "<"):
                wanted = copy.deepcopy(self.all_told(self.TEXT.format(sign), "m at s", shunned))
                for unused in range(3):
                    name, told = self.all_told(self.TEXT.format(sign), "m at s", shunned)
                    self.assertEqual((name, told), wanted)
                    run = told if name == "plan" else told[0]
                    run.reverse()
                    run.clear()

    def test_asked_again_of_the_same_net(self):
        for shunned in (None, "m at t"):
            net = read_net(self.TEXT.format("<"))
            ask, shun = read_ask(net, "m at s"), shunned and read_ask(net, shunned)
            name, told = forced(net, ask, shun)
            play, moves = (play_plan, self.REPLIES) if name == "plan" else (play_counter, self.WISHES)
            wanted = copy.deepcopy(play(net, ask, shun, told, moves))
            self.assertEqual(name, "plan" if shunned is None else "counter")
            for unused in range(3):
                played = play(net, ask, shun, told, moves)
                self.assertEqual(played, wanted)
                (played if name == "plan" else played[0]).clear()
                self.assertEqual(play(net, ask, shun, forced(net, ask, shun)[1], moves), wanted)

    def test_by_turns(self):
        one, other = (self.TEXT.format("<"), "m at s", None), (self.TEXT.format("=="), "m at s", "m at t")
        wanted = (self.all_told(*one), self.all_told(*other))
        self.assertEqual((wanted[0][0], wanted[1][0]), ("plan", "counter"))
        for unused in range(2):
            self.assertEqual((self.all_told(*other), self.all_told(*one)), wanted[::-1])

    def test_sixty_of_either_and_what_comes_of_it(self):
        """Parts that grow ever smaller: what was told is gone again, however great."""
        text = text_of("watch x/watch y/box b 0 20 0/box k 0 20 0/machine m/room r stay x < 1/room s/"
                       "door r r weather do y = 0, b + 1/door r r weather when b == 20 do y = 0, b = 0, k + 1/"
                       "door r s when k > 20").replace("stay x < 1", "stay x <= 1")
        net = read_net(text)
        ask = read_ask(net, "x == 1")
        name, plan = forced(net, ask)
        self.assertEqual(name, "plan")
        run = play_plan(net, ask, None, plan, [((1, 10 ** 9 + number), 0) for number in range(60)])
        self.assertGreater(len(run), 40)
        self.assertGreater(max(wait[1] for wait, act in run), SIXTY)
        self.assertTrue(ask.meets(ran(net, run)[-1]))
        text = text_of("watch x/watch y/machine m/room r/room s/door r r do y = 0")
        net = read_net(text)
        ask = read_ask(net, "m at s")
        wishes = [((1, SIXTY - number), (0,)) for number in range(60)]
        self.assertEqual(play_counter(net, ask, None, forced(net, ask)[1], wishes), (wishes, "kept"))
        self.assertEqual(len(ran(net, wishes)), 61)


class Interface(unittest.TestCase):
    def test_names_and_arguments(self):
        for name, arguments in {"play_plan": "(net, ask, shun, plan, replies)",
                                "play_counter": "(net, ask, shun, counter, wishes)"}.items():
            self.assertEqual(str(inspect.signature(getattr(own, name))), arguments, name)


if __name__ == "__main__":
    unittest.main()
