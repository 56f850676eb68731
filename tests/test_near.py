import copy
import fractions
import inspect
import random
import unittest

from making import PRICE, SIXTY, ask_of, ask_text, small_ask, small_yard, text_of, yard_meets, yard_of, yard_text
from paying import with_prices, yard_gone

from watchyard import near as own
from watchyard.asks import read_ask
from watchyard.fractions import is_fraction
from watchyard.near import run_near
from watchyard.prices import priced
from watchyard.reading import read_net
from watchyard.runs import ran, spent

NUMBERS = (1, 2, 3, 1000, 10 ** 20, SIXTY)


class Cases(unittest.TestCase):
    def assertNear(self, text, asked, price, numbers=NUMBERS):
        """The runs that are told, gone without the program and with it."""
        net, yard = read_net(text), yard_of(text)
        ask = read_ask(net, asked)
        told = [run_near(net, ask, n) for n in numbers]
        for n, run in zip(numbers, told):
            self.assertIs(type(run), list)
            for entry in run:
                self.assertEqual((type(entry), len(entry), type(entry[1])), (tuple, 2, tuple))
                self.assertTrue(is_fraction(entry[0]))
            last, paid = yard_gone(yard, run)
            self.assertTrue(yard_meets(yard, ask_of(asked), last), run)
            self.assertTrue(price <= paid < price + fractions.Fraction(1, n), (n, paid))
            self.assertTrue(ask.meets(ran(net, run)[-1]))
            self.assertEqual(fractions.Fraction(*spent(net, run)), paid)
        return told


class Near(Cases):
    def test_met_at_the_start(self):
        text = text_of("watch x/machine m/room r price 7/room s/door r s price 5")
        for asked in ("m at r", "x == 0", "x <= 0", "m at s; m at r"):
            self.assertEqual(self.assertNear(text, asked, 0), [[]] * len(NUMBERS))

    def test_acts_alone(self):
        text = text_of("machine m/room r price 5/room s/room t/door r s price 3/door s t price 4/door r t price 8")
        for run in self.assertNear(text, "m at t", 7):
            self.assertEqual(run, [((0, 1), (0,)), ((0, 1), (1,))])
        for run in self.assertNear(text.replace("price 8", "price 6"), "m at t", 6):
            self.assertEqual(run, [((0, 1), (2,))])
        self.assertNear(text.replace("price 8", f"price {PRICE}").replace("price 4", f"price {PRICE}"), "m at t", PRICE)

    def test_waits_alone(self):
        text = text_of("watch x/machine m/room r price 5")
        for asked in ("x == 4", "x >= 4", "x > 3, x >= 4", "x > 5; x == 4"):
            for run in self.assertNear(text, asked, 20):
                self.assertTrue(all(act == () for wait, act in run))
        for asked, time in (("x > 4", 4), ("x > 0", 0), ("x > 2, x < 3", 2), ("x > 60", 60)):
            for run in self.assertNear(text, asked, 5 * time):
                self.assertGreater(spent(read_net(text), run), (5 * time, 1))
        self.assertNear(text.replace("price 5", f"price {PRICE}"), "x > 60", 60 * PRICE)
        self.assertNear(text.replace(" price 5", ""), "x > 60", 0)

    def test_only_come_near_to(self):
        """No run costs as little as this: where it is dear one has to be for a while."""
        rows = ("watch x/watch y/machine m/room r price {}/room s price {}/room t/door r s when x > 0 do y = 0/"
                "door s t when x == 2, y {} 1")
        self.assertNear(text_of(rows.format(1, 9, "<")), "m at t", 2)
        self.assertNear(text_of(rows.format(9, 1, ">=")), "m at t", 2)
        self.assertNear(text_of(rows.format(9, 1, "<=")), "m at t", 10)
        self.assertNear(text_of(rows.format(9, 1, "<")), "m at t", 10)
        self.assertNear(text_of(rows.format(PRICE, 1, "<")), "m at t", PRICE + 1)
        self.assertNear(text_of(rows.format(1, PRICE, "<")), "m at t", 2)
        self.assertNear(text_of(rows.format(0, PRICE, ">")), "m at t", PRICE)

    def test_all_watches_with_ranks_of_their_own(self):
        text = text_of("watch w/watch x/watch y/watch z/machine m/room a price 4/room b price 1/room c price 3/"
                       "room d price 2/room e/door a b when w > 0 do x = 0/door b c when x > 0, x < 1, w < 1 do y = 0/"
                       "door c d when y > 0, y < 1, w < 1 do z = 0/door d e when z > 0, w == 1")
        for run in self.assertNear(text, "m at e", 1):
            self.assertEqual([act for wait, act in run], [(0,), (1,), (2,), (3,)])
            self.assertTrue(all(wait[0] > 0 for wait, act in run))
        self.assertNear(text.replace("z > 0, w == 1", "y == 1, w < 2, z > 0"), "m at e", 2)
        self.assertNear(text.replace("z > 0, w == 1", "z > 1, w == 2"), "m at e, x > 2, w < 3", 3)
        self.assertNear(text.replace("z > 0, w == 1", "x > 2, z == 2, w > 2, y < 3"), "m at e", 4)

    def test_rooms_that_hurry(self):
        text = text_of("watch x/machine m/room r price 9/room h price 2 hurry/room t price 4/door r h when x > 0/"
                       "door h t")
        for run in self.assertNear(text, "m at t, x > 2", 8):
            self.assertEqual([act for wait, act in run], [(0,), (1,), ()])
            self.assertEqual(run[1][0], (0, 1))
        for run in self.assertNear(text, "m at h, x > 2", 18):
            self.assertEqual([act for wait, act in run], [(0,)])

    def test_the_weather_and_two_doors(self):
        text = text_of("watch x/machine m/room r price 1/room s/door r s weather say go price 2/"
                       "machine n/room r/room s/door r s hear go price 3 when x > 2")
        for run in self.assertNear(text, "n at s", 7):
            self.assertEqual([act for wait, act in run], [(0, 1)])

    def test_many_steps(self):
        text = text_of("watch x/watch y/box b 0 20 0/machine m/room r price 3 stay x < 1/room s price 1 stay x < 1/"
                       "door r s when y > 0 do y = 0, b + 1/door s r when y > 0 do y = 0, b + 1")
        for run in self.assertNear(text, "b == 20", 0):
            self.assertEqual(len(run), 20)

    def test_never(self):
        for rows, asked in (("machine m/room r/room s", "m at s"), ("watch x/machine m/room r stay x <= 1", "x > 1"),
                            ("watch x/machine m/room r price 3 hurry", "x > 0")):
            net = read_net(text_of(rows))
            for n in NUMBERS:
                self.assertIsNone(run_near(net, read_ask(net, asked), n))

    def test_any(self):
        chance = random.Random(1)
        seen = {"price": 0, "never": 0}
        strict = 0
        for unused in range(250):
            most = chance.choice([1, 2, 3])
            yard = with_prices(chance, small_yard(chance, most), chance.choice([9, PRICE]))
            text, asked = yard_text(yard), ask_text(small_ask(chance, yard, most))
            net = read_net(text)
            told = priced(net, read_ask(net, asked))
            seen[told[0]] += 1
            if told[0] == "never":
                self.assertIsNone(run_near(net, read_ask(net, asked), 5))
                continue
            run = self.assertNear(text, asked, told[1], (1, 1000, 10 ** 20))[2]
            strict += spent(net, run) != (told[1], 1)
        self.assertGreater(min(seen.values()), 60)
        self.assertGreater(strict, 15)


class Asked(Cases):
    TEXT = text_of("watch x/machine m/room r price {}/room s price 2/door r s when x > 1")

    def test_what_is_told_is_the_askers(self):
        net = read_net(self.TEXT.format(3))
        ask = read_ask(net, "m at s, x > 2")
        wanted = copy.deepcopy(run_near(net, ask, 7))
        for unused in range(3):
            told = run_near(net, ask, 7)
            self.assertEqual(told, wanted)
            told.clear()
            self.assertIsNone(run_near(net, read_ask(net, "m at s, x < 1"), 7))

    def test_by_turns(self):
        nets = [read_net(self.TEXT.format(price)) for price in (3, 1)]
        asks = [[read_ask(net, asked) for asked in ("m at s, x > 2", "x == 3")] for net in nets]
        wanted = [[run_near(net, ask, 9) for ask in each] for net, each in zip(nets, asks)]
        self.assertNotEqual(*wanted)
        for unused in range(2):
            for number in (1, 0):
                for net, each, told in zip(nets, asks, wanted):
                    self.assertEqual(run_near(net, each[number], 9), told[number])
                    self.assertNotEqual(run_near(net, each[0], 10 ** 6), told[0])


class Interface(unittest.TestCase):
    def test_names_and_arguments(self):
        self.assertEqual(str(inspect.signature(own.run_near)), "(net, ask, n)")


if __name__ == "__main__":
    unittest.main()
