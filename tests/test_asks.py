import copy
import inspect
import itertools
import random
import unittest

from making import BOX_SIGNS, ROW_WORDS, SIXTY, WATCH_SIGNS, ask_text, is_ask, some_ask, some_yard, yard_acted
from making import yard_acts, yard_meets, yard_mosts, yard_of, yard_start, yard_text, yard_waited

from watchyard import asks as own
from watchyard.asks import Ask, mosts, read_ask
from watchyard.errors import NoAsk, WatchError
from watchyard.reading import read_net
from watchyard.runs import ran
from watchyard.states import begun

TEXT = """watch x
watch y
box b -2 5 0
box k 0 9 9
machine m
room a
room c stay x <= 7
door a c when x >= 2, y < 5, b != 3 do x = 0, b + 1
machine n
room a
room d
door a d weather
"""
NET = read_net(TEXT)
INCH = SIXTY


def state(rooms=("a", "a"), boxes=(0, 9), times=((0, 1), (0, 1))):
    return (rooms, boxes, times)


def meets(text, *parts):
    return read_ask(NET, text).meets(state(*parts))


def is_refused(net, text):
    try:
        read_ask(net, text)
    except WatchError as refusal:
        return type(refusal) is NoAsk
    return False


class Rooms(unittest.TestCase):
    def test_rooms_of_machines(self):
        for rooms in itertools.product("ac", "ad"):
            for machine, room in (("m", "a"), ("m", "c"), ("n", "a"), ("n", "d")):
                self.assertIs(meets(f"{machine} at {room}", rooms), rooms["mn".index(machine)] == room)

    def test_rooms_called_like_words_of_rows(self):
        words = ROW_WORDS[:6]
        net = read_net("watch at\nbox price 0 1 0\nmachine room\n" + "".join(f"room {word}\n" for word in words)
                       + "machine machine\n" + "".join(f"room {word}\n" for word in ROW_WORDS[6:12])
                       + "machine watch\nroom at\nroom do\n")
        for word in words:
            for other in ROW_WORDS[6:12]:
                here = ((word, other, "at"), (0,), ((3, 1),))
                self.assertTrue(read_ask(net, f"room at {word}").meets(here))
                self.assertTrue(read_ask(net, f"machine at {other}, watch at at, at == 3, price < 1").meets(here))
                self.assertEqual(read_ask(net, "room at watch").meets(here), word == "watch")
                self.assertEqual(read_ask(net, "machine at stay").meets(here), other == "stay")
                self.assertFalse(read_ask(net, "watch at do").meets(here))
        for text in ("at at at", "price at room", "watch < 1", "room at at", "machine at room", "at at do", "at < at"):
            self.assertTrue(is_refused(net, text), text)
        net = read_net("machine at\nroom at\nroom a\n")
        self.assertTrue(read_ask(net, "at at at").meets((("at",), (), ())))
        self.assertFalse(read_ask(net, "at at a").meets((("at",), (), ())))

    def test_rooms_and_machines_called_like_watches(self):
        net = read_net("watch x\nbox b 0 1 0\nmachine m\nroom x\nroom b\nroom m\n")
        self.assertTrue(read_ask(net, "m at x, x < 1").meets((("x",), (0,), ((0, 1),))))
        self.assertFalse(read_ask(net, "m at b").meets((("m",), (0,), ((0, 1),))))
        for text in ("x at x", "b at b", "x at 0", "m at 0", "m < 1", "m == x"):
            self.assertTrue(is_refused(net, text), text)


class Numbers(unittest.TestCase):
    def test_signs_of_watches(self):
        below, at, above = (3 * INCH - 1, INCH), (3, 1), (3 * INCH + 1, INCH)
        for sign, holding in (("<", [True, False, False]), ("<=", [True, True, False]), ("==", [False, True, False]),
                              (">=", [False, True, True]), (">", [False, False, True])):
            for time, holds in zip((below, at, above), holding):
                self.assertIs(meets(f"x {sign} 3", ("a", "a"), (0, 9), (time, (9, 1))), holds)
                self.assertIs(meets(f"y {sign} 3", ("a", "a"), (0, 9), ((9, 1), time)), holds)

    def test_signs_of_boxes(self):
        for sign, holding in (("<", [True, False, False]), ("<=", [True, True, False]), ("==", [False, True, False]),
                              ("!=", [True, False, True]), (">=", [False, True, True]), (">", [False, False, True])):
            for number, holds in zip((-2, -1, 0), holding):
                self.assertIs(meets(f"b {sign} -1", ("a", "a"), (number, 9)), holds)
            for number, holds in zip((4, 5, 6), holding):
                self.assertIs(meets(f"k {sign} 5", ("a", "a"), (0, number)), holds)

    def test_numbers_at_their_bounds(self):
        for sign in WATCH_SIGNS:
            for number in (0, 1, 9, 10, 59, 60):
                self.assertIsInstance(read_ask(NET, f"x {sign} {number}"), Ask)
        for sign in BOX_SIGNS:
            for number in (-20, -19, -10, -1, 0, 1, 19, 20):
                self.assertIsInstance(read_ask(NET, f"b {sign} {number}"), Ask)
        self.assertTrue(meets("x >= 60, y <= 60", ("a", "a"), (0, 9), ((60, 1), (60, 1))))
        self.assertFalse(meets("x >= 60", ("a", "a"), (0, 9), ((60 * INCH - 1, INCH), (60, 1))))
        self.assertFalse(meets("x < 0"))
        self.assertTrue(meets("x <= 0, b > -20, k < 20"))
        self.assertTrue(meets("x > 60", ("a", "a"), (0, 9), ((SIXTY, 1), (0, 1))))


class Parts(unittest.TestCase):
    def test_all_conditions_of_some_part(self):
        conds = {"m at c": False, "m at a": True, "x < 1": True, "x > 1": False, "b == 0": True, "b != 0": False}
        for length in (1, 2, 3):
            for some in itertools.product(conds, repeat=length):
                holding = [conds[each] for each in some]
                self.assertIs(meets(", ".join(some)), all(holding))
                self.assertIs(meets("; ".join(some)), any(holding))
        for first, second in itertools.product(itertools.product(conds, repeat=2), repeat=2):
            wanted = all(conds[each] for each in first) or all(conds[each] for each in second)
            self.assertIs(meets(", ".join(first) + "; " + ", ".join(second)), wanted)

    def test_very_many(self):
        self.assertTrue(meets(", ".join(["x < 1"] * 3000)))
        self.assertFalse(meets(", ".join(["x < 1"] * 3000 + ["x > 1"])))
        self.assertTrue(meets("; ".join(["x > 1, b == 0"] * 3000 + ["m at a"])))
        self.assertFalse(meets("; ".join(["x > 1, b == 0"] * 3000)))


class Refused(unittest.TestCase):
    def assertRefused(self, text, net=NET):
        self.assertTrue(is_refused(net, text), text)

    def test_what_is_no_text(self):
        for thing in (None, 0, 1, True, False, 0.5, b"m at a", [], ["m at a"], {}, (), ("m at a",), object(), str, NET,
                      read_ask(NET, "m at a"), {"m at a": True}, {"m at a"}):
            self.assertRefused(thing)

    def test_it_is_made_of_a_text(self):
        for thing in (None, "", "z < 1"):
            with self.assertRaises(NoAsk) as caught:
                read_ask(NET, thing)
            self.assertEqual([type(each) for each in caught.exception.args], [str])

    def test_blanks_commas_and_semicolons(self):
        for text in ("", " ", ",", ";", ", ", "; ", "\n", "m", "m at", "m at ", " m at a", "m at a ", "m  at a",
                     "m at  a", "m at a\n", "\nm at a", "m\tat a", "m at\u00a0a", "mat a", "m ata", "m at a a",
                     "m at a,", "m at a, ", "m at a;", "m at a; ", ", m at a", "; m at a", ";m at a", ",m at a",
                     "m at a,n at a", "m at a;n at a", "m at a ,n at a", "m at a , n at a", "m at a ; n at a",
                     "m at a,  n at a", "m at a;  n at a", "m at a,, n at a", "m at a;; n at a", "m at a, , n at a",
                     "m at a; ; n at a", "m at a;, n at a", "m at a,; n at a", "m at a, ; n at a", "m at a; , n at a",
                     "m at a n at a", "m at a and n at a", "m at a\nn at a", "m at a,\nn at a",
                     "x<1", "x <1", "x< 1", "x < 1 ", " x < 1", "x  < 1", "x <  1", "x < 1,", "x < 1;", "x < 1, y",
                     "x < 1, y <", "x < 1 y < 1", "x < 1 , y < 1", "x < 1,y < 1", "x < 1;y < 1", "x < 1; y", "x",
                     "x <", "< 1", "x < 1, ", "x < 1; ", "x < 1\r", "x < 1\n", "(x < 1)", "x < 1.", "not x < 1"):
            self.assertRefused(text)

    def test_names_that_the_net_has_not(self):
        for text in ("z at a", "m at z", "m at d", "n at c", "a at m", "a at a", "at at a", "M at a", "m at A",
                     "m at m", "m at x", "x at a", "b at a", "x at x", "m At a", "m AT a", "m is a", "m == a",
                     "m < 1", "a < 1", "z < 1", "z == 1", "X < 1", "m at a, z < 1", "m at a; z < 1", "x < y", "x < b",
                     "b < k", "1 < x", "m at 1", "x at 1", "m at ", " at a", "at", "at at at", "c == 1", "door < 1"):
            self.assertRefused(text)
        self.assertRefused("x < 1", read_net("machine m\nroom a\n"))
        self.assertRefused("b < 1", read_net("watch x\nmachine m\nroom a\n"))

    def test_signs(self):
        for sign in ("!=", "=", "=<", "=>", "<>", "+", "-", "===", "", "is", "in", "<<", "at", "!", "<=="):
            self.assertRefused(f"x {sign} 1")
            self.assertRefused(f"m at a, x {sign} 0")
            if sign != "!=":
                self.assertRefused(f"b {sign} 1")
        for text in ("m != a", "m at != a", "y != 0", "y != 60", "m at a; x != 1"):
            self.assertRefused(text)

    def test_deeds(self):
        for text in ("x = 0", "b = 0", "b + 1", "b - 1", "m at a, b = 1", "y = 0; m at a"):
            self.assertRefused(text)

    def test_numbers_beyond_their_bounds(self):
        for sign in WATCH_SIGNS:
            for number in (-1, 61, 100, -60, 10 ** 30, SIXTY):
                self.assertRefused(f"x {sign} {number}")
        for sign in BOX_SIGNS:
            for number in (-21, 21, 60, -60, 100, SIXTY, -SIXTY):
                self.assertRefused(f"b {sign} {number}")

    def test_numbers_written_otherwise(self):
        for word in ("00", "01", "05", "-0", "-00", "-01", "+1", "+0", "--1", "1-", "-", "", "1.0", "1e1", "0x1", "1_0",
                     "\u0661", "\u00b2", "\uff11", "one", "1\r", "1;", "1,", "9" * 5000, "-" + "9" * 5000, "0" * 5000):
            for name in "xb":
                self.assertRefused(f"{name} <= {word}")
                self.assertRefused(f"m at a, {name} == {word}; n at a")

    def test_rows_of_nets(self):
        for text in ("when x < 1", "stay x <= 1", "room a", "machine m", TEXT, "do x = 0", "m at a do x = 0"):
            self.assertRefused(text)


class Mosts(unittest.TestCase):
    def assertMosts(self, told, text, *asks):
        net = read_net(text.replace("/", "\n"))
        self.assertEqual(mosts(net, [read_ask(net, ask) for ask in asks]), told)

    def test_watches_held_against_nothing(self):
        self.assertMosts([], "machine m/room r/")
        self.assertMosts([], "box b 0 9 0/machine m/room r/door r r when b < 9 do b + 7/", "b < 20", "m at r")
        self.assertMosts([0], "watch x/machine m/room r/")
        self.assertMosts([0] * 4, "watch x/watch y/watch z/watch a/machine m/room r price 9/door r r do x = 0/")
        self.assertMosts([0], "watch x/machine m/room r/", "m at r", "m at r; m at r")

    def test_one_condition(self):
        for sign in WATCH_SIGNS:
            for number in (0, 1, 7, 60):
                self.assertMosts([0, number], f"watch x/watch y/machine m/room r/door r r when y {sign} {number}/")
                self.assertMosts([number, 0], "watch x/watch y/machine m/room r/", f"x {sign} {number}")
        for number in (1, 7, 60):
            self.assertMosts([number], f"watch x/machine m/room r stay x < {number}/")
            self.assertMosts([number], f"watch x/machine m/room r stay x <= {number}/")

    def test_each_having_the_greatest(self):
        text = ("watch x/box b 0 20 0/machine m/room r stay x <= {0}/room s stay x < {1}, x <= 1/"
                "door r s when x > {2}, b < 20/door r s when x >= 1, x == {3}, b == 20/"
                "machine n/room r stay x <= 2, x < {4}/door r r when x <= {5}/")
        for numbers in itertools.permutations([3, 4, 5, 6, 7, 8]):
            asks = ["m at r, x < 2; x >= 9", "b == 20", "x == 1, x > 2"]
            self.assertMosts([8], text.format(*numbers))
            self.assertMosts([9], text.format(*numbers), *asks)
            self.assertMosts([8], text.format(*numbers), *asks[1:])
            self.assertMosts([10], text.format(*numbers), *asks[::-1], "x < 10")

    def test_each_watch_by_itself(self):
        text = "watch x/watch y/watch z/machine m/room r stay z <= 4/door r r when x > 3, z < 2/"
        self.assertMosts([3, 0, 4], text)
        self.assertMosts([3, 5, 4], text, "y == 5, x < 3")
        self.assertMosts([60, 5, 59], text, "y == 5; x < 60", "z <= 59")

    def test_asks_are_nothing_to_later_questions(self):
        self.assertEqual(mosts(NET, [read_ask(NET, "x < 60")]), [60, 5])
        self.assertEqual(mosts(NET, []), [7, 5])

    def test_numbers_of_boxes_are_nothing_to_it(self):
        self.assertMosts([2], "watch x/box b 0 9 0/machine m/room r/door r r when b < 9, x < 2/", "b == 20, x < 1")


class AnyNets(unittest.TestCase):
    def test_any_asks(self):
        chance = random.Random(5)
        seen = [0, 0]
        for turn in range(150):
            yard = some_yard(chance, most=3, fullest=turn < 30)
            net = read_net(yard_text(yard))
            asks = [some_ask(chance, yard, 3) for unused in range(chance.randint(1, 6))]
            read = [read_ask(net, ask_text(ask)) for ask in asks]
            self.assertTrue(all(is_ask(yard, ask_text(ask)) for ask in asks))
            count = chance.randint(0, len(asks))
            self.assertEqual(mosts(net, read[:count]), yard_mosts(yard, asks[:count]))
            for here in some_states(chance, yard):
                for ask, made in zip(asks, read):
                    wanted = yard_meets(yard, ask, here)
                    self.assertIs(made.meets(here), wanted)
                    seen[wanted] += 1
        self.assertGreater(min(seen), 500)

    def test_any_texts_made_wrong(self):
        chance = random.Random(6)
        seen = [0, 0]
        for unused in range(150):
            yard = some_yard(chance, most=60)
            net = read_net(yard_text(yard))
            for unused_either in range(20):
                text = made_wrong(chance, ask_text(some_ask(chance, yard, 60)))
                wanted = is_ask(yard, text)
                self.assertEqual(is_refused(net, text), not wanted, text)
                seen[wanted] += 1
        self.assertGreater(min(seen), 150)


def some_states(chance, yard):
    told = [yard_start(yard)]
    for unused in range(12):
        here = chance.choice(told)
        later = yard_waited(yard, here, chance.choice([(1, 1), (1, 2), (0, 1)])) or here
        ends = [yard_acted(yard, later, act) for act in yard_acts(yard)]
        told.append(chance.choice([later] + [end for end in ends if end is not None]))
    return told


def made_wrong(chance, text):
    place = chance.randrange(len(text) + 1)
    words = text.split(" ")
    word = chance.randrange(len(words))
    return chance.choice([
        text[:place] + text[place + 1:],
        text[:place] + chance.choice("0 1-\n,;ab9<=>! ") + text[place:],
        " ".join(words[:word] + words[word + 1:]),
        " ".join(words[:word] + [chance.choice(words)] + words[word + 1:]),
        " ".join(words[:word] + [chance.choice(words)] + words[word:])])


class Asked(unittest.TestCase):
    def test_what_is_handed_in_is_not_changed_and_what_is_told_is_the_askers(self):
        ask, here = read_ask(NET, "m at a, x < 4; k >= 9"), state()
        asks, kept = [ask, read_ask(NET, "y == 9")], copy.deepcopy(here)
        handed = list(asks)
        for unused in range(3):
            told = mosts(NET, asks)
            self.assertEqual(told, [7, 9])
            self.assertIs(type(told), list)
            told[0] = 99
            told.clear()
            self.assertIs(ask.meets(here), True)
            self.assertEqual((here, asks), (kept, handed))

    def test_what_is_done_to_told_rooms_and_doors_is_nothing_to_it(self):
        net = read_net(TEXT)
        net.rooms(0)[1].stays[0].against = 50
        net.rooms(0)[1].stays.clear()
        net.doors()[0].conds[0].against = 50
        net.watches().clear()
        net.machines().clear()
        net.boxes().clear()
        self.assertEqual(mosts(net, []), [7, 5])
        self.assertTrue(read_ask(net, "m at a, b == 0, x == 0").meets(begun(net)))

    def test_two_nets_by_turns(self):
        other = read_net("watch y\nwatch x\nbox k -2 2 1\nmachine n\nroom c\nroom a\nmachine m\nroom d\n")
        for unused in range(3):
            one, two = read_ask(NET, "n at d, x < 2"), read_ask(other, "n at a, x < 2")
            here, there = state(("a", "d"), (0, 9), ((1, 1), (3, 1))), (("a", "d"), (1,), ((3, 1), (1, 1)))
            self.assertTrue(one.meets(here))
            self.assertTrue(two.meets(there))
            self.assertFalse(read_ask(NET, "n at a").meets(here))
            self.assertTrue(is_refused(NET, "m at d"))
            self.assertTrue(read_ask(other, "m at d").meets(there))
            self.assertEqual((mosts(NET, [one]), mosts(other, [two])), ([7, 5], [0, 2]))

    def test_states_of_great_fractions(self):
        run = [((1, SIXTY - number), ()) for number in range(100)]
        here = ran(NET, run)[-1]
        self.assertTrue(read_ask(NET, "x > 0, x < 1, m at a").meets(here))
        self.assertFalse(read_ask(NET, "x >= 1; y <= 0").meets(here))

    def test_the_yard_of_a_text_is_the_texts(self):
        self.assertEqual(yard_text(yard_of(TEXT)), TEXT)
        self.assertEqual(yard_mosts(yard_of(TEXT), []), [7, 5])


class Interface(unittest.TestCase):
    def test_names_and_arguments(self):
        self.assertEqual(str(inspect.signature(own.read_ask)), "(net, text)")
        self.assertEqual(str(inspect.signature(own.mosts)), "(net, asks)")
        self.assertEqual(str(inspect.signature(own.Ask.meets)), "(self, state)")
        self.assertIs(type(read_ask(NET, "m at a")), Ask)


if __name__ == "__main__":
    unittest.main()
