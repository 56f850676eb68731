import copy
import inspect
import random
import unittest

from making import SIXTY, Looked, ask_of, ask_text, book_faults, small_ask, small_yard, text_of, yard_acted, yard_meets
from making import yard_mosts, yard_of, yard_spot, yard_start, yard_text, yard_waited

from watchyard import ways as own
from watchyard.asks import mosts, read_ask
from watchyard.fractions import is_fraction
from watchyard.reading import read_net
from watchyard.runs import lasts, ran, spent
from watchyard.spots import acts_in, later, led, spot_of, state_in
from watchyard.states import begun
from watchyard.ways import way_to

# Two machines that want the same thing: each writes its number down, waits, and goes on if it still stands there.
TURNS = """watch v
watch w
box turn 0 2 0
machine m
room a
room b stay v <= {0}
room c
room d
door a b when turn == 0 do v = 0
door b c do v = 0, turn = 1
door c d when turn == 1, v {1} {0}
door c a when turn != 1
door d a do turn = 0
machine n
room a
room b stay w <= {0}
room c
room d
door a b when turn == 0 do w = 0
door b c do w = 0, turn = 2
door c d when turn == 2, w {1} {0}
door c a when turn != 2
door d a do turn = 0
"""


class Cases(unittest.TestCase):
    def assertGone(self, yard, run):
        """The states of the run, gone without the program."""
        state = yard_start(yard)
        for wait, act in run:
            self.assertTrue(is_fraction(wait))
            state = yard_waited(yard, state, wait)
            self.assertIsNotNone(state, run)
            state = state if act == () else yard_acted(yard, state, act)
            self.assertIsNotNone(state, run)
        return state

    def assertMet(self, text, asked):
        net, yard = read_net(text), yard_of(text)
        ask = read_ask(net, asked)
        told = way_to(net, ask)
        self.assertEqual((type(told), len(told), told[0]), (tuple, 2, "met"))
        self.assertIs(type(told[1]), list)
        self.assertTrue(all(type(entry) is tuple and type(entry[1]) is tuple for entry in told[1]))
        self.assertTrue(ask.meets(ran(net, told[1])[-1]))
        self.assertTrue(yard_meets(yard, ask_of(asked), self.assertGone(yard, told[1])))
        return told[1]

    def assertNever(self, text, asked):
        net, yard = read_net(text), yard_of(text)
        ask = read_ask(net, asked)
        told = way_to(net, ask)
        self.assertEqual((type(told), len(told), told[0]), (tuple, 2, "never"))
        self.assertIs(type(told[1]), list)
        self.assertEqual(book_faults(yard, ask_of(asked), told[1]), [])
        self.assertBook(net, ask, told[1])
        return told[1]

    def assertBook(self, net, ask, book):
        """By the words of the document, and the program's own spots."""
        most = mosts(net, [ask])
        self.assertEqual(book, sorted(set(book)))
        self.assertIn(spot_of(most, begun(net)), book)
        spots = set(book)
        for spot in book:
            self.assertFalse(ask.meets(state_in(most, spot)))
            self.assertIn(later(net, most, spot), spots | {None})
            for act in acts_in(net, most, spot):
                self.assertIn(led(net, most, spot, act), spots)


class Met(Cases):
    def test_at_the_start(self):
        text = text_of("watch x/box b 0 2 1/machine m/room r/room s/door r s")
        for asked in ("m at r", "x == 0", "x <= 0", "b == 1", "b < 2, x < 1, m at r", "m at s; m at r", "x >= 0"):
            self.assertEqual(self.assertMet(text, asked), [])

    def test_after_acts_alone(self):
        text = text_of("box b 0 3 0/machine m/room r/room s/room t/door r s do b + 1/door s r do b + 1/"
                       "door s t when b == 3/machine n/room r/room s/door r s when b > 2")
        run = self.assertMet(text, "m at t")
        self.assertEqual([act for wait, act in run if act], [(0,), (1,), (0,), (2,)])
        self.assertMet(text, "n at s, m at t")
        self.assertMet(text, "b == 2")

    def test_after_acts_where_rooms_hurry(self):
        text = text_of("watch x/machine m/room r hurry/room s hurry/room t/door r s/door s t")
        run = self.assertMet(text, "m at t")
        self.assertEqual(run, [((0, 1), (0,)), ((0, 1), (1,))])
        self.assertMet(text, "m at t, x > 0")
        self.assertMet(text, "m at t, x == 3")

    def test_after_waits_alone(self):
        text = text_of("watch x/watch y/machine m/room r stay x <= 5")
        for asked in ("x > 0", "x > 4", "x >= 5", "x == 5", "x > 3, y < 4", "x == 2, y <= 2", "y == 5", "x > 1, x < 2"):
            run = self.assertMet(text, asked)
            self.assertTrue(all(act == () for wait, act in run))
        self.assertEqual(lasts(self.assertMet(text, "x == 5")), (5, 1))

    def test_beyond_all_numbers(self):
        self.assertMet(text_of("watch x/machine m/room r"), "x > 60")
        self.assertMet(text_of("watch x/machine m/room r/room s/door r s when x > 60"), "m at s")
        self.assertMet(text_of("watch x/watch y/machine m/room r/room s/door r s when x > 60 do x = 0"),
                       "m at s, x == 0, y > 60")

    def test_after_both(self):
        text = text_of("watch x/watch y/machine m/room r/room s stay y <= 1/room t/door r s when x >= 2 do y = 0/"
                       "door s t when y == 1/door t r do x = 0")
        run = self.assertMet(text, "m at t")
        self.assertEqual([act for wait, act in run if act], [(0,), (1,)])
        self.assertFalse(lasts(run)[0] < 3 * lasts(run)[1])
        self.assertEqual(lasts(self.assertMet(text, "m at t, x == 3")), (3, 1))
        self.assertMet(text, "m at s, x > 4, y < 1")
        self.assertMet(text, "m at r, x == 0, y == 1")
        self.assertMet(text, "m at r, x == 0, y > 1")

    def test_broken_times(self):
        rows = "watch x/watch y/machine m/room r/room s/room t/door r s when x > 0, x < 1 do y = 0/door s t when x {} 1"
        for sign in ("==", ">", ">=", "<", "<="):
            text = text_of(rows.format(sign))
            self.assertMet(text, "m at t, y > 0, y < 1")
            self.assertMet(text, "m at t, x >= 1, y <= 1; m at t, x <= 1, y == 0")
        rows = ("machine m/room r/room s/room t/room u/door r s when x > 0, x < 1 do y = 0/"
                "door s t when x > 0, x < 1, y > 0 do z = 0/door t u when x == 1")
        for watches in ("watch x/watch y/watch z/", "watch z/watch y/watch x/", "watch y/watch z/watch x/"):
            self.assertMet(text_of(watches + rows), "m at u, y > 0, y < 1, z > 0, z < 1")
            self.assertMet(text_of(watches + rows), "m at u, y == 1, z > 0, z < 1")
            self.assertMet(text_of(watches + rows), "m at u, x == 2, y > 1, z > 1")
            self.assertNever(text_of(watches + rows), "m at u, y < 1, z == 1")

    def test_ever_smaller_waits(self):
        """Each time round less is left: the told parts grow small."""
        text = text_of("watch x/watch y/box b 0 20 0/machine m/room r stay x < 1/room s stay x < 1/"
                       "door r s when y > 0 do y = 0, b + 1/door s r when y > 0 do y = 0, b + 1")
        run = self.assertMet(text, "b == 20")
        self.assertEqual(len([act for wait, act in run if act]), 20)
        self.assertTrue(lasts(run)[0] < lasts(run)[1])
        self.assertEqual(spent(read_net(text), run), (0, 1))
        self.assertNever(text, "x == 1")

    def test_acts_of_two_doors(self):
        text = text_of("watch x/machine m/room r/room s/door r s say go when x >= 1/machine n/room r/room s/"
                       "door r s hear go when x <= 1 do x = 0/machine k/room r/room s/door r s hear go")
        self.assertEqual(self.assertMet(text, "n at s"), [((1, 1), (0, 1))])
        run = self.assertMet(text, "k at s")
        self.assertEqual(run[-1][1], (0, 2))
        self.assertNever(text, "n at s, k at s")
        self.assertNever(text, "m at r, n at s; m at r, k at s; n at r, k at r, m at s")

    def test_several_parts(self):
        text = text_of("watch x/machine m/room r/room s/room t/door r s when x == 2/door r t when x == 4")
        self.assertMet(text, "m at s, x < 2; m at t, x == 4")
        self.assertMet(text, "m at t; x > 60")
        self.assertMet(text, "m at t, x < 4; m at s, x < 2; m at s, x == 2, m at s")
        self.assertNever(text, "m at t, x < 4; m at s, x < 2; m at r, m at s")

    def test_the_weather_does_as_we_want(self):
        text = text_of("watch x/machine m/room r/room s/room t/door r s weather when x == 2/door s t weather")
        self.assertEqual([act for wait, act in self.assertMet(text, "m at t") if act], [(0,), (1,)])

    def test_turns_that_are_taken_too_soon(self):
        for number in (1, 3):
            self.assertMet(TURNS.format(number, ">="), "m at d, n at d")
            self.assertMet(TURNS.format(number, "=="), "n at d, m at d")


class Never(Cases):
    def test_rooms_that_none_leads_to(self):
        book = self.assertNever(text_of("machine m/room r/room s"), "m at s")
        self.assertEqual(book, [(("r",), (), ())])
        self.assertNever(text_of("watch x/machine m/room r/room s/door s r/door r s when x < 0"), "m at s")
        self.assertNever(text_of("watch x/machine m/room r/room s/room t/door r s/door s r do x = 0"), "m at t")

    def test_boxes(self):
        text = text_of("box b -3 5 0/machine m/room r/door r r when b != 3 do b + 3, b - 1/"
                       "door r r when b >= 3 do b = 0")
        book = self.assertNever(text, "b == -1; b == 1; b > 4")
        self.assertEqual(book, [(("r",), (number,), ()) for number in (0, 2, 4)])

    def test_watches_and_stays(self):
        text = text_of("watch x/machine m/room r stay x < 3/room s/door r s when x <= 1/door s r do x = 0")
        self.assertNever(text, "m at r, x >= 3")
        self.assertNever(text, "m at r, x == 3; m at r, x > 60")
        self.assertMet(text, "m at s, x > 60")
        text = text_of("watch x/machine m/room r stay x <= 3/room s/door r s when x > 3")
        self.assertNever(text, "m at s")
        self.assertNever(text, "x > 3")
        book = self.assertNever(text_of("watch x/machine m/room r stay x <= 1"), "x > 1")
        self.assertEqual(book, [(("r",), (), (cell,)) for cell in ((0, 0), (0, 1), (1, 0))])

    def test_rooms_that_hurry(self):
        text = text_of("watch x/machine m/room r hurry/room s hurry/door r s/door s r")
        self.assertEqual(len(self.assertNever(text, "x > 0")), 2)
        self.assertNever(text, "x == 5; m at r, m at s")

    def test_broken_times(self):
        rows = ("watch x/watch y/machine m/room r/room s/room t/door r s when x {} 1 do y = 0/"
                "door s t when x < 2, y {} 1")
        self.assertMet(text_of(rows.format("<", ">=")), "m at t")
        self.assertNever(text_of(rows.format(">=", ">=")), "m at t")
        self.assertNever(text_of(rows.format("==", ">=")), "m at t")
        self.assertMet(text_of(rows.format(">=", "<")), "m at t")
        text = text_of("watch x/watch y/machine m/room r/room s/door r s when x > 0 do y = 0")
        self.assertNever(text, "m at s, x == 1, y == 1")
        self.assertMet(text, "m at s, x == 2, y == 1")
        self.assertNever(text, "m at s, x <= 1, y >= 1")
        self.assertMet(text, "m at s, x > 1, y == 1")

    def test_turns_that_are_kept(self):
        for number in (1, 2):
            self.assertNever(TURNS.format(number, ">"), "m at d, n at d")
            self.assertMet(TURNS.format(number, ">"), "m at d, n at a; m at d, n at c, turn == 2")


class Any(Cases):
    def test_nets(self):
        chance = random.Random(1)
        seen = {"met": 0, "never": 0}
        longest = 0
        for unused in range(700):
            most = chance.choice([1, 2, 2, 3])
            yard = small_yard(chance, most)
            asked = small_ask(chance, yard, most)
            net = read_net(yard_text(yard))
            ask = read_ask(net, ask_text(asked))
            word, told = way_to(net, ask)
            seen[word] += 1
            if word == "met":
                self.assertTrue(yard_meets(yard, asked, self.assertGone(yard, told)))
                self.assertTrue(ask.meets(ran(net, told)[-1]))
                longest = max(longest, len(told))
            else:
                self.assertEqual(book_faults(yard, asked, told), [])
        self.assertGreater(min(seen.values()), 200)
        self.assertGreater(longest, 3)

    def test_what_is_never_met_is_not_met_by_any_run(self):
        chance = random.Random(2)
        tried = 0
        while tried < 60:
            yard = small_yard(chance, 2)
            asked = small_ask(chance, yard, 2)
            net = read_net(yard_text(yard))
            word, book = way_to(net, read_ask(net, ask_text(asked)))
            if word == "met" or len(book) < 5:
                continue
            tried += 1
            most, looked = yard_mosts(yard, [asked]), Looked(yard, [asked])
            state = yard_start(yard)
            for unused in range(25):
                state = yard_waited(yard, state, chance.choice([(0, 1), (1, 2), (1, 3), (1, 1), (2, 1)])) or state
                self.assertIn(yard_spot(most, state), book)
                self.assertFalse(yard_meets(yard, asked, state))
                here = looked.at(yard_spot(most, state))
                acts = sorted({**here["ours"], **here["theirs"]})
                state = yard_acted(yard, state, chance.choice(acts)) if acts else state
                self.assertIn(yard_spot(most, state), book)
                self.assertFalse(yard_meets(yard, asked, state))


class Asked(Cases):
    def test_what_is_told_is_the_askers(self):
        net = read_net(TURNS.format(1, ">"))
        for asked in ("m at d", "m at d, n at d"):
            ask = read_ask(net, asked)
            wanted = copy.deepcopy(way_to(net, ask))
            for unused in range(3):
                told = way_to(net, ask)
                self.assertEqual(told, wanted)
                told[1].reverse()
                told[1].clear()
        self.assertEqual(net.doors()[0].resets, [0])

    def test_by_turns(self):
        one, other = read_net(TURNS.format(1, ">")), read_net(TURNS.format(1, ">="))
        asks = (read_ask(one, "m at d, n at d"), read_ask(other, "m at d, n at d"))
        wanted = (way_to(one, asks[0]), way_to(other, asks[1]))
        self.assertEqual((wanted[0][0], wanted[1][0]), ("never", "met"))
        for unused in range(2):
            self.assertEqual((way_to(one, asks[0]), way_to(other, asks[1])), wanted)
        self.assertEqual(way_to(one, read_ask(one, "m at d"))[0], "met")
        self.assertEqual(way_to(one, asks[0]), wanted[0])

    def test_what_was_told_may_be_handed_in_again(self):
        """A run with very small parts, and very many."""
        text = text_of("watch x/watch y/watch z/box b 0 20 0/box k 0 20 0/machine m/room r stay x < 1/"
                       "door r r when y > 0 do y = 0, b + 1/door r r when b == 20, y > 0 do k + 1, b = 0, y = 0")
        run = self.assertMet(text, "k == 9")
        net = read_net(text)
        self.assertEqual(len(run), 9 * 21)
        self.assertGreater(lasts(run)[1], SIXTY // 10 ** 5)
        self.assertEqual(ran(net, run)[-1][1], (0, 9))
        self.assertEqual(spot_of([1, 0, 0], ran(net, run)[-1])[2], ((0, 1), (0, 0), (1, 0)))


class Interface(unittest.TestCase):
    def test_names_and_arguments(self):
        self.assertEqual(str(inspect.signature(own.way_to)), "(net, ask)")


if __name__ == "__main__":
    unittest.main()
