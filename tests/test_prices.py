import copy
import fractions
import inspect
import random
import unittest

from making import PRICE, ask_of, ask_text, book_faults, small_ask, small_yard, text_of, yard_acted, yard_acts
from making import yard_meets, yard_mosts, yard_of, yard_start, yard_text, yard_waited
from paying import kept_at_whole_times, no_strict, none_faults, price_at_whole_times, price_book_faults, with_prices
from paying import yard_gone, yard_price, yard_rate

from watchyard import prices as own
from watchyard.asks import mosts, read_ask
from watchyard.cells import corners, is_moment, put_back
from watchyard.near import run_near
from watchyard.prices import priced
from watchyard.reading import read_net
from watchyard.runs import spent
from watchyard.spots import acts_in, later, led, spot_of, state_in
from watchyard.states import begun
from watchyard.ways import way_to

# Two ways to the shop: slow and cheap, or quick and dear.
SHOP = """watch x
machine m
room home price {0}
room bus price {1} stay x <= 6
room cab price {2} stay x <= 2
room shop
door home bus price {3} do x = 0
door home cab price {4} do x = 0
door bus shop when x >= 6
door cab shop when x >= 2
"""


class Cases(unittest.TestCase):
    def assertPriced(self, text, asked, price):
        """The heights by spot, looked through entry by entry; and that runs come near to the price."""
        net, yard, ask = read_net(text), yard_of(text), ask_of(asked)
        told = priced(net, read_ask(net, asked))
        self.assertEqual((type(told), len(told), told[0], told[1]), (tuple, 3, "price", price), asked)
        self.assertIs(type(told[1]), int)
        self.assertBook(net, asked, *told[1:])
        self.assertEqual(price_book_faults(yard, ask, price, told[2]), [])
        self.assertEqual(none_faults(yard, ask, told[2]), [])
        for n in (1, 10 ** 6):
            last, paid = yard_gone(yard, run_near(net, read_ask(net, asked), n))
            self.assertTrue(yard_meets(yard, ask, last))
            self.assertTrue(price <= paid < price + fractions.Fraction(1, n))
        return dict(told[2])

    def assertBook(self, net, asked, price, book):
        """By the words of the document, and the program's own spots."""
        ask = read_ask(net, asked)
        most = mosts(net, [ask])
        heights = dict(book)
        self.assertIs(type(book), list)
        self.assertEqual([spot for spot, each in book], sorted(heights))
        self.assertEqual(heights[spot_of(most, begun(net))], (price,))
        for spot, each in book:
            self.assertEntry(net, most, ask, heights, spot)

    def assertEntry(self, net, most, ask, heights, spot):
        each, after = heights[spot], later(net, most, spot)
        goals = {act: led(net, most, spot, act) for act in acts_in(net, most, spot)}
        for goal in list(goals.values()) + ([] if after is None else [after]):
            self.assertIn(goal, heights)
        if each is None:
            self.assertFalse(ask.meets(state_in(most, spot)))
            self.assertTrue(all(heights[goal] is None for goal in goals.values()))
            self.assertTrue(after is None or heights[after] is None)
            return
        self.assertEqual((type(each), [type(height) for height in each]), (tuple, [int] * len(corners(spot[2]))))
        if ask.meets(state_in(most, spot)):
            self.assertLessEqual(max(each), 0)
        moment = is_moment(most, spot[2])
        if after is not None and heights[after] is not None:
            pairs = zip(each, heights[after]) if moment else zip(each[1:], heights[after])
            self.assertTrue(all(height <= behind for height, behind in pairs))
        if not moment and len(each) > 1 and not net.hurries(spot[0]):
            self.assertLessEqual(each[0], net.rate(spot[0]) + each[-1])
        for act, goal in goals.items():
            if heights[goal] is not None:
                resets = [watch for number in act for watch in net.doors()[number].resets]
                self.assertEqual(goal[2], put_back(spot[2], resets))
                for corner, height in zip(corners(spot[2]), each):
                    became = tuple(0 if watch in resets else number for watch, number in enumerate(corner))
                    behind = heights[goal][corners(goal[2]).index(became)]
                    self.assertLessEqual(height, net.price_of(act) + behind)

    def assertNever(self, text, asked):
        net = read_net(text)
        told = priced(net, read_ask(net, asked))
        self.assertEqual((type(told), len(told), told[0], type(told[1])), (tuple, 2, "never", list))
        self.assertEqual(book_faults(yard_of(text), ask_of(asked), told[1]), [])
        self.assertEqual(way_to(net, read_ask(net, asked))[0], "never")
        return told[1]


class Least(Cases):
    def test_met_at_the_start(self):
        text = text_of("watch x/box b 0 2 1/machine m/room r price 7/room s/door r s price 5")
        for asked in ("m at r", "x == 0", "x <= 0", "b == 1, x < 1", "m at s; m at r", "x >= 0"):
            heights = self.assertPriced(text, asked, 0)
            # Closed under all that can be done, though there is no need for it.
            self.assertIn((("s",), (1,)), [spot[:2] for spot in heights])

    def test_acts_alone(self):
        text = text_of("machine m/room r/room s/room t/door r s price 3/door s t price 4/door r t price 8/door t r")
        heights = self.assertPriced(text, "m at t", 7)
        self.assertEqual(heights, {(("r",), (), ()): (7,), (("s",), (), ()): (4,), (("t",), (), ()): (0,)})
        self.assertPriced(text.replace("price 8", "price 7"), "m at t", 7)
        self.assertPriced(text.replace("price 8", "price 6"), "m at t", 6)
        self.assertPriced(text.replace(" price 8", ""), "m at t", 0)
        self.assertPriced(text.replace("price 4", "price 0"), "m at t", 3)
        self.assertPriced(text.replace("room r", "room r price 9"), "m at t", 7)

    def test_many_cheap_acts_or_a_dear_one(self):
        rows = "box b 0 20 0/machine m/room r/room s/door r r price 2 do b + 1/door r s when b == 20/door r s price {}"
        for price in (0, 1, 39, 40, 41, PRICE):
            self.assertPriced(text_of(rows.format(price)), "m at s", min(price, 40))

    def test_waits_alone(self):
        rows = "watch x/machine m/room r price {}/machine n/room r price {}"
        for one, other in ((0, 0), (3, 0), (0, 3), (2, 5), (PRICE, PRICE)):
            text = text_of(rows.format(one, other))
            for asked, time in (("x > 0", 0), ("x >= 1", 1), ("x == 4", 4), ("x > 4", 4), ("x > 3, x < 4", 3),
                                ("x >= 5", 5), ("x > 60", 60), ("x == 60", 60), ("x == 9; x == 3", 3)):
                self.assertPriced(text, asked, time * (one + other))

    def test_heights_at_corners(self):
        text = text_of("watch x/machine m/room r price 5")
        heights = self.assertPriced(text, "x == 2", 10)
        cells = {((0, 0),): (10,), ((0, 1),): (10, 5), ((1, 0),): (5,), ((1, 1),): (5, 0), ((2, 0),): (0,),
                 ((3, 0),): None}
        self.assertEqual(heights, {(("r",), (), cell): each for cell, each in cells.items()})
        heights = self.assertPriced(text, "x > 1", 5)
        cells = {((0, 0),): (5,), ((0, 1),): (5, 0), ((1, 0),): (0,), ((2, 0),): (0,)}
        self.assertEqual(heights, {(("r",), (), cell): each for cell, each in cells.items()})

    def test_no_watch_and_rooms_with_prices(self):
        self.assertPriced(text_of("machine m/room r price 9/room s price 3/door r s"), "m at s", 0)
        self.assertNever(text_of("machine m/room r price 9/room s price 3/door s r"), "m at s")

    def test_waits_and_acts(self):
        for prices, least in (((0, 1, 1, 1, 9), 7), ((0, 3, 1, 1, 9), 11), ((0, 1, 5, 0, 0), 6), ((9, 1, 5, 0, 0), 6),
                              ((0, 0, 0, 0, 0), 0), ((0, PRICE, 1, 0, 5), 7), ((0, 1, PRICE, 0, 0), 6),
                              ((0, PRICE, PRICE, 0, PRICE), 3 * PRICE), ((0, 2, 7, 3, 1), 15), ((0, 2, 7, 3, 0), 14)):
            self.assertPriced(SHOP.format(*prices), "m at shop", least)
        self.assertPriced(SHOP.format(4, 2, 7, 3, 1), "m at bus, x > 2", 7)
        self.assertPriced(SHOP.format(4, 2, 7, 3, 1), "m at cab; m at bus, x > 2", 1)

    def test_waiting_where_it_is_cheapest(self):
        rows = ("watch x/watch y/machine m/room r price {}/room s price {}/room t/door r s do y = 0/door s r price {}/"
                "door s t when x >= 8, y >= 2")
        self.assertPriced(text_of(rows.format(3, 1, 0)), "m at t", 8)
        self.assertPriced(text_of(rows.format(1, 3, 0)), "m at t", 6 + 6)
        self.assertPriced(text_of(rows.format(1, 30, 0)), "m at t", 6 + 60)
        # Back again and forth: the second watch is put back at each time.
        self.assertPriced(text_of(rows.format(1, 3, 0).replace(" do y = 0", "")), "m at t", 8)
        self.assertPriced(text_of(rows.format(1, 3, 5).replace("x >= 8, y >= 2", "x >= 8, y > 2")), "m at t", 12)
        self.assertPriced(text_of(rows.format(PRICE, 1, 0)), "m at t", 8)

    def test_broken_times_in_between(self):
        """Where both watches matter the acts lie at times that are come near to."""
        rows = ("watch x/watch y/machine m/room r price {}/room s price {}/room t price {}/room u/"
                "door r s when x {} 1 do y = 0/door s t when x {} 1/door t u when y {} 1")
        for one, other, third in ((2, 3, 5), (5, 3, 2), (3, 5, 2), (0, 1, 0), (7, 0, 7)):
            for signs in ((">", "<", ">="), (">", ">", "<"), ("<", ">", ">="), ("<", "==", "=="), (">=", ">=", ">"),
                          ("==", "==", "=="), ("<", ">=", "<="), ("<", "<", "==")):
                text = text_of(rows.format(one, other, third, *signs))
                if signs[0] == ">" and signs[1] == "<":
                    self.assertNever(text, "m at u")
                    continue
                # At whole times each act lies at 0, 1 or 2, as far as its signs let it come near.
                fits = {"<": (0, 1), ">": (1, 2), "==": (1,), ">=": (1, 2), "<=": (0, 1)}
                prices = [a * one + (b - a) * other + (c - b) * third
                          for a in fits[signs[0]] for b in fits[signs[1]] for c in range(b, 4)
                          if a <= b and (c - a in fits[signs[2]])]
                self.assertPriced(text, "m at u", min(prices))

    def test_all_watches_with_ranks_of_their_own(self):
        text = text_of("watch w/watch x/watch y/watch z/machine m/room a price 4/room b price 1/room c price 3/"
                       "room d price 2/room e/door a b price 1 when w > 0 do x = 0/"
                       "door b c when x > 0, x < 1, w < 1 do y = 0/"
                       "door c d when y > 0, y < 1, w < 1 do z = 0/door d e when z > 0, w < 1, z < 1")
        heights = self.assertPriced(text, "m at e", 1)
        self.assertEqual(max(len(each) for each in heights.values() if each), 5)
        self.assertPriced(text, "m at e, w == 1", 1)
        # Of the times below 1 the cheapest room has all but as little as wanted.
        self.assertPriced(text.replace("z > 0, w < 1, z < 1", "z > 0, w == 1"), "m at e", 2)
        self.assertPriced(text.replace("z > 0, w < 1, z < 1", "y == 1, z < 1, x > 1"), "m at e", 3)
        self.assertPriced(text.replace("z > 0, w < 1, z < 1", "z == 1, w > 1"), "m at e", 3)
        self.assertPriced(text.replace("z > 0, w < 1, z < 1", "z == 1, w == 1"), "m at e; x == 3", 4)

    def test_rooms_that_hurry(self):
        text = text_of("watch x/machine m/room r price 9/room h price 2/room t/door r h when x < 2/door h t when x > 3")
        self.assertPriced(text, "m at t", 6)
        self.assertNever(text.replace("price 2", "price 2 hurry"), "m at t")
        text = text_of("watch x/machine m/room r price 9/room h price 2 hurry/room t price 4/"
                       "door r h when x > 0/door h t/door t r when x == 5")
        self.assertPriced(text, "m at t", 0)
        self.assertPriced(text, "m at t, x == 3", 12)
        self.assertPriced(text, "m at r, x > 4; m at h, x > 3", 20)
        self.assertPriced(text, "m at r, x > 4, x < 5; m at h, x > 3, x < 5", 27)
        self.assertPriced(text.replace("room t price 4", "room t price 4 stay x <= 2"), "x >= 4", 36)

    def test_stays(self):
        text = text_of("watch x/watch y/machine m/room r price 1 stay x < 3/room s price 9/door r r do x = 0/"
                       "door r s price 2")
        self.assertPriced(text, "y > 7", 7)
        self.assertPriced(text, "m at s, y > 2, x > 3", 5)
        self.assertPriced(text, "m at s, y > 2, x > 4", 14)
        self.assertPriced(text, "x == 3", 5)
        self.assertPriced(text, "m at s, x == 2", 4)
        self.assertNever(text, "m at r, x >= 3")

    def test_the_weathers_acts_are_done_as_we_want(self):
        text = text_of("watch x/machine m/room r price 2/room s/room t/door r s weather price 3 when x >= 2/"
                       "door s t weather price 5/door r t price 20")
        self.assertPriced(text, "m at t", 12)

    def test_acts_of_two_doors(self):
        text = text_of("watch x/machine m/room r price 1/room s/door r s say go price 2/"
                       "machine n/room r price 1/room s/door r s hear go price 3 when x >= 2/door r s price 7/"
                       "machine k/room r/room s/door r s hear go price 4")
        self.assertPriced(text, "m at s", 6)
        self.assertPriced(text, "n at s", 7)
        self.assertPriced(text, "m at s, n at s", 9)
        self.assertPriced(text, "m at s, n at s, k at r", 9)
        self.assertPriced(text, "n at s, k at s", 13)

    def test_prices_beyond_bounds_of_machines(self):
        text = text_of(f"watch x/machine m/room r price {PRICE}/room s price {PRICE - 1}/door r s price {PRICE}/"
                       f"machine n/room r price {PRICE}")
        # Sixty times one less is not worth the door's price.
        self.assertPriced(text, "x >= 60", 120 * PRICE)
        self.assertPriced(text, "m at s, x > 1", 3 * PRICE - 1)
        self.assertPriced(text.replace(f"door r s price {PRICE}", "door r s price 59"), "x >= 60", 120 * PRICE - 1)

    def test_several_parts(self):
        text = text_of("watch x/machine m/room r price 2/room s/room t/door r s price 9/door r t when x == 4")
        self.assertPriced(text, "m at s; m at t", 8)
        self.assertPriced(text, "m at s; m at t; x > 3", 6)
        self.assertPriced(text, "m at s; m at t, x > 4", 8)
        self.assertPriced(text, "m at s; m at t, x > 4, m at r", 9)

    def test_asks_that_are_met_on_the_way_only(self):
        text = text_of("watch x/machine m/room r price 1/room s/door r s price 1 when x > 0, x < 1")
        heights = self.assertPriced(text, "m at r, x == 1", 1)
        self.assertIn(None, heights.values())
        self.assertPriced(text, "m at s, x < 1", 1)
        self.assertPriced(text, "m at s, x > 5", 1)


class Never(Cases):
    def test_books(self):
        self.assertEqual(self.assertNever(text_of("machine m/room r/room s"), "m at s"), [(("r",), (), ())])
        text = text_of("watch x/machine m/room r price 3 stay x <= 1/room s/door r s price 4 when x > 1")
        self.assertEqual(self.assertNever(text, "m at s"), [(("r",), (), (cell,)) for cell in ((0, 0), (0, 1), (1, 0))])
        self.assertNever(text, "x > 1")
        self.assertNever(text_of("box b 0 3 0/machine m/room r/door r r price 1 do b + 2"), "b == 1; b == 3")
        self.assertNever(text_of("watch x/watch y/machine m/room r/room s/door r s when x > 0 do y = 0"),
                         "m at s, x == 1, y == 1")


class Any(Cases):
    def some(self, chance, most):
        yard = with_prices(chance, small_yard(chance, most), chance.choice([3, 9, PRICE]))
        return yard, small_ask(chance, yard, most)

    def test_nets(self):
        chance = random.Random(1)
        seen = {"price": 0, "never": 0}
        prices, sizes = set(), set()
        for unused in range(500):
            yard, asked = self.some(chance, chance.choice([1, 2, 2, 3]))
            net = read_net(yard_text(yard))
            told = priced(net, read_ask(net, ask_text(asked)))
            seen[told[0]] += 1
            self.assertEqual(way_to(net, read_ask(net, ask_text(asked)))[0] == "met", told[0] == "price")
            if told[0] == "never":
                self.assertEqual(book_faults(yard, asked, told[1]), [])
                continue
            prices.add(told[1])
            sizes |= {len(heights) for spot, heights in told[2] if heights is not None}
            self.assertEqual(price_book_faults(yard, asked, told[1], told[2]), [])
            self.assertEqual(none_faults(yard, asked, told[2]), [])
            last, paid = yard_gone(yard, run_near(net, read_ask(net, ask_text(asked)), 3))
            self.assertTrue(yard_meets(yard, asked, last))
            self.assertTrue(told[1] <= paid < told[1] + fractions.Fraction(1, 3))
        self.assertGreater(min(seen.values()), 120)
        self.assertGreater(len(prices), 40)
        self.assertGreaterEqual(sizes, {1, 2, 3})

    def test_by_the_programs_own_spots(self):
        chance = random.Random(2)
        tried = 0
        while tried < 60:
            yard, asked = self.some(chance, 2)
            net = read_net(yard_text(yard))
            told = priced(net, read_ask(net, ask_text(asked)))
            if told[0] == "price" and len(told[2]) > 5:
                tried += 1
                self.assertBook(net, ask_text(asked), told[1], told[2])

    def test_against_runs_at_whole_times(self):
        """Without the signs < and > the least price is one of a run at whole times."""
        chance = random.Random(3)
        above = 0
        for unused in range(450):
            yard, asked = self.some(chance, 3)
            yard, asked = kept_at_whole_times(yard), [no_strict(part) for part in asked]
            net = read_net(yard_text(yard))
            told = priced(net, read_ask(net, ask_text(asked)))
            wanted = price_at_whole_times(yard, asked, yard_mosts(yard, [asked]))
            self.assertEqual(told[1] if told[0] == "price" else None, wanted)
            above += wanted is not None and wanted > 0
        self.assertGreater(above, 60)

    def test_no_run_is_cheaper(self):
        chance = random.Random(4)
        met = 0
        for unused in range(250):
            yard, asked = self.some(chance, 2)
            net = read_net(yard_text(yard))
            told = priced(net, read_ask(net, ask_text(asked)))
            if told[0] == "price" and told[1] > 0:
                for unused_either in range(8):
                    met += self.gone(chance, yard, asked, told[1])
        self.assertGreater(met, 250)

    def gone(self, chance, yard, asked, price):
        """Goes any run until it meets the ask, and tells whether it does."""
        state, paid = yard_start(yard), fractions.Fraction(0)
        for unused in range(15):
            wait = chance.choice([(0, 1), (0, 1), (1, 2), (1, 3), (1, 1), (1, 7), (9, 10)])
            after = yard_waited(yard, state, wait)
            if after is not None:
                paid += fractions.Fraction(*wait) * yard_rate(yard, state[0])
                state = after
            free = [act for act in yard_acts(yard) if yard_acted(yard, state, act)]
            if not yard_meets(yard, asked, state) and free:
                act = chance.choice(free)
                state, paid = yard_acted(yard, state, act), paid + yard_price(yard, act)
            if yard_meets(yard, asked, state):
                self.assertGreaterEqual(paid, price)
                return True
        return False


class Faults(Cases):
    """What looks through books of prices would see a wrong one."""

    def test_wrong_books(self):
        text = text_of("watch x/machine m/room r price 3/room s/room t/door r s price 2 when x > 1/door r t")
        yard, asked = yard_of(text), ask_of("m at s")
        heights = self.assertPriced(text, "m at s", 5)
        start, early, late = [(("r",), (), (place,)) for place in ((0, 0), (0, 1), (2, 0))]
        for spot, wrong in ((start, (6,)), (start, (4,)), (early, (4, 2)), (early, (6, 2)), (early, (5, 3)),
                            (late, (3,)), (late, None), (start, None), (start, (5, 5)), (early, (5,)), (early, ()),
                            (late, (True,)), ((("s",), (), ((2, 0),)), (1,)), ((("t",), (), ((0, 0),)), (1,)),
                            (late, (0,)), ((("s",), (), ((2, 0),)), None)):
            changed = sorted({**heights, spot: wrong}.items())
            self.assertNotEqual(price_book_faults(yard, asked, 5, changed), [], (spot, wrong))
        for spot in heights:
            lacking = [each for each in sorted(heights.items()) if each[0] != spot]
            self.assertNotEqual(price_book_faults(yard, asked, 5, lacking), [])
        self.assertNotEqual(price_book_faults(yard, asked, 4, sorted(heights.items())), [])
        self.assertNotEqual(price_book_faults(yard, asked, 5, sorted(heights.items())[::-1]), [])
        self.assertNotEqual(none_faults(yard, asked, [(spot, None) for spot in heights]), [])
        self.assertNotEqual(none_faults(yard, asked, [(spot, (0,)) for spot in heights]), [])


class Asked(Cases):
    TEXTS = (SHOP.format(1, 2, 7, 3, 1), SHOP.format(4, 1, 9, 0, 5))

    def test_what_is_told_is_the_askers(self):
        net = read_net(self.TEXTS[0])
        for asked in ("m at shop", "m at shop, x < 1"):
            ask = read_ask(net, asked)
            wanted = copy.deepcopy(priced(net, ask))
            for unused in range(3):
                told = priced(net, ask)
                self.assertEqual(told, wanted)
                told[-1].reverse()
                told[-1].clear()
        self.assertEqual(net.doors()[0].resets, [0])

    def test_by_turns(self):
        nets = [read_net(text) for text in self.TEXTS]
        asks = [[read_ask(net, asked) for asked in ("m at shop", "x > 3", "m at cab, x > 2")] for net in nets]
        wanted = [[priced(net, ask) for ask in own] for net, own in zip(nets, asks)]
        self.assertEqual([[told[1] for told in own if told[0] == "price"] for own in wanted], [[15, 3], [6, 3]])
        for number in (0, 1, 2, 1, 0):
            for net, own, told in zip(nets, asks, wanted):
                self.assertEqual(priced(net, own[number]), told[number])

    def test_the_price_is_spent_where_a_run_meets_it(self):
        net = read_net(self.TEXTS[0])
        run = [((0, 1), (1,)), ((2, 1), (3,))]
        self.assertEqual(spent(net, run), (priced(net, read_ask(net, "m at shop"))[1], 1))


class Interface(unittest.TestCase):
    def test_names_and_arguments(self):
        self.assertEqual(str(inspect.signature(own.priced)), "(net, ask)")


if __name__ == "__main__":
    unittest.main()
