import inspect
import random
import unittest

from making import PRICE, ask_text, small_ask, small_yard, some_yard, text_of, yard_acts, yard_of, yard_text
from paying import with_prices

from watchyard import beside as own
from watchyard.asks import read_ask
from watchyard.beside import beside
from watchyard.errors import NoNet, WatchError
from watchyard.force import forced
from watchyard.nets import Net
from watchyard.prices import priced
from watchyard.reading import read_net, shown
from watchyard.states import acted, begun
from watchyard.ways import way_to


def net_of(rows):
    return read_net(text_of(rows))


def row_of_refusal(one, other):
    """The refusal's kind and value, None where there is none."""
    try:
        beside(one, other)
    except WatchError as refusal:
        return (type(refusal), refusal.row)
    return None


def cond_told(cond):
    return (type(cond).__name__, cond.number, cond.sign, cond.against)


def net_told(net):
    """All that a net tells of itself."""
    told = [shown(net), net.watches(), net.boxes(), net.machines(), net.acts()]
    for machine in range(len(net.machines())):
        for room in net.rooms(machine):
            told.append((room.name, room.price, room.hurry, [cond_told(cond) for cond in room.stays]))
    for door in net.doors():
        told.append((door.machine, door.start, door.goal, door.weather, door.word, door.price,
                     [cond_told(cond) for cond in door.conds], door.resets, door.deeds))
    told.extend((net.is_weather(act), net.price_of(act)) for act in net.acts())
    return told


def renamed(yard):
    """The yard with other names of watches, boxes, machines and words: none stands in small yards."""
    names = {name: f"other{name}"[:8] for name in yard["watches"]}
    names.update({box[0]: f"other{box[0]}" for box in yard["boxes"]})
    for machine in yard["machines"]:
        machine["name"] = f"other{machine['name']}"
        for room in machine["rooms"]:
            room["stays"] = [(names[name], sign, number) for name, sign, number in room["stays"]]
        for door in machine["doors"]:
            door["word"] = door["word"] and (door["word"][0], f"other{door['word'][1]}")
            for threes in ("conds", "deeds"):
                door[threes] = [(names[name], sign, number) for name, sign, number in door[threes]]
    yard["watches"] = [names[name] for name in yard["watches"]]
    yard["boxes"] = [(names[box[0]],) + box[1:] for box in yard["boxes"]]
    return yard


def harmless(yard):
    """The yard without stays, hurry and weather, and with first rooms of the price 0."""
    for machine in yard["machines"]:
        machine["rooms"][0]["price"] = None
        for room in machine["rooms"]:
            room["hurry"], room["stays"] = False, []
        for door in machine["doors"]:
            door["weather"] = False
    return yard


class Text(unittest.TestCase):
    def assertBeside(self, one, other, rows):
        told = beside(net_of(one), net_of(other))
        self.assertIsInstance(told, Net)
        self.assertEqual(shown(told), text_of(rows))
        self.assertEqual(net_told(told), net_told(net_of(rows)))

    def test_each_sort_the_ones_first(self):
        one = ("watch x/box b 0 2 1/machine m/room r price 3 hurry stay x <= 2/"
               "door r r weather price 4 when x < 1, b > 0")
        other = ("watch y/watch z/box c -3 0 -1/machine n/room s stay z < 9/room r/door s r say go do z = 0, c = -3/"
                 "machine k/room r/door r r hear go price 2 when y == 3")
        self.assertBeside(one, other, (
            "watch x/watch y/watch z/box b 0 2 1/box c -3 0 -1/"
            "machine m/room r price 3 hurry stay x <= 2/door r r weather price 4 when x < 1, b > 0/"
            "machine n/room s stay z < 9/room r/door s r say go do z = 0, c = -3/"
            "machine k/room r/door r r hear go price 2 when y == 3"))
        self.assertBeside(other, one, (
            "watch y/watch z/watch x/box c -3 0 -1/box b 0 2 1/"
            "machine n/room s stay z < 9/room r/door s r say go do z = 0, c = -3/"
            "machine k/room r/door r r hear go price 2 when y == 3/"
            "machine m/room r price 3 hurry stay x <= 2/door r r weather price 4 when x < 1, b > 0"))

    def test_sorts_that_one_or_both_lack(self):
        self.assertBeside("machine m/room r", "machine n/room r", "machine m/room r/machine n/room r")
        self.assertBeside("machine m/room r", "watch x/box b 0 0 0/machine n/room r",
                          "watch x/box b 0 0 0/machine m/room r/machine n/room r")
        self.assertBeside("box b 0 0 0/machine m/room r", "watch x/machine n/room r",
                          "watch x/box b 0 0 0/machine m/room r/machine n/room r")

    def test_rows_stay_as_they_were(self):
        """Noughts that are written, conditions and deeds that stand twice."""
        self.assertBeside("watch x/machine m/room r price 0 stay x < 1, x < 1", "machine n/room r/door r r price 0",
                          "watch x/machine m/room r price 0 stay x < 1, x < 1/machine n/room r/door r r price 0")
        self.assertBeside("machine n/room r/door r r price 0", "watch x/machine m/room r/door r r do x = 0, x = 0",
                          "watch x/machine n/room r/door r r price 0/machine m/room r/door r r do x = 0, x = 0")

    def test_names_that_are_no_names_of_these(self):
        """Rooms may be called alike, and like whatever else; words like anything but words."""
        self.assertBeside("watch watch/machine box/room room/room watch/door room watch say machine",
                          "box door 0 0 0/machine room/room room/room box/door room box hear box",
                          "watch watch/box door 0 0 0/machine box/room room/room watch/door room watch say machine/"
                          "machine room/room room/room box/door room box hear box")

    def test_words_meet_within_each_net_alone(self):
        one = net_of("machine m/room r/door r r say go/machine n/room r/door r r hear go")
        other = net_of("machine k/room r/door r r say on/machine l/room r/door r r hear on/door r r")
        self.assertEqual(beside(one, other).acts(), [(0, 1), (2, 3), (4,)])
        self.assertEqual(beside(other, one).acts(), [(0, 1), (2,), (3, 4)])

    def test_three(self):
        texts = ("machine m/room r", "watch x/machine n/room r", "watch y/machine k/room r")
        one, other, third = [net_of(text) for text in texts]
        self.assertEqual(net_told(beside(beside(one, other), third)), net_told(beside(one, beside(other, third))))

    def test_any(self):
        chance = random.Random(1)
        done = refused = 0
        while done < 40:
            yards = [some_yard(chance, 9), renamed(small_yard(chance, 9))]
            if chance.random() < 0.5:
                yards.reverse()
            one, other = [read_net(yard_text(yard)) for yard in yards]
            rows = {sort: [yard[sort] for yard in yards] for sort in ("watches", "boxes", "machines")}
            both = {sort: each[0] + each[1] for sort, each in rows.items()}
            doors = sum(len(machine["doors"]) for machine in both["machines"])
            if len(both["watches"]) > 4 or len(both["boxes"]) > 3 or len(both["machines"]) > 4 or doors > 24:
                self.assertEqual(row_of_refusal(one, other), (NoNet, 0))
                refused += 1
                continue
            done += 1
            told = beside(one, other)
            self.assertEqual(shown(told), yard_text(both))
            self.assertEqual(net_told(told), net_told(read_net(yard_text(both))))
            self.assertEqual(told.acts(), yard_acts(both))
            self.assertEqual(yard_of(shown(told)), both)
        self.assertGreater(refused, 20)


class Refused(unittest.TestCase):
    def assertRefused(self, one, other):
        for first, second in ((one, other), (other, one)):
            self.assertEqual(row_of_refusal(net_of(first), net_of(second)), (NoNet, 0), (first, second))

    def assertTaken(self, one, other):
        for first, second in ((one, other), (other, one)):
            self.assertIsNone(row_of_refusal(net_of(first), net_of(second)), (first, second))

    def test_names_alike_of_whichever_sorts(self):
        texts = {"watch": "watch {}/machine {}m/room r", "box": "box {} 0 0 0/machine {}m/room r",
                 "machine": "machine {}/room r"}
        for one in texts.values():
            for other in texts.values():
                self.assertRefused(one.format("a", "p"), other.format("a", "q"))
                self.assertTaken(one.format("a", "p"), other.format("b", "q"))
        self.assertRefused("machine m/room r/machine n/room r", "machine k/room r/machine n/room r")

    def test_itself(self):
        for rows in ("machine m/room r", "watch x/box b 0 0 0/machine m/room r"):
            net = net_of(rows)
            self.assertEqual(row_of_refusal(net, net), (NoNet, 0))
            self.assertEqual(row_of_refusal(net, net_of(rows)), (NoNet, 0))

    def test_words_alike(self):
        rows = "machine {}/room r/door r r{} {} {}"
        for one in ("say", "hear"):
            for other in ("say", "hear"):
                for weather in ("", " weather"):
                    first = rows.format("m", "", one, "go")
                    self.assertRefused(first, rows.format("n", weather, other, "go"))
                    self.assertTaken(first, rows.format("n", weather, other, "gone"))
        self.assertRefused("machine m/room r/door r r say go/door r r hear on",
                           "machine n/room r/door r r/door r r hear on")

    def test_a_word_like_a_name(self):
        self.assertTaken("machine m/room r/door r r say n", "machine n/room r/door r r say m")

    def test_watches(self):
        rows = "{}machine {}/room r"
        for one, other in ((1, 3), (2, 2), (0, 4)):
            first = rows.format("".join(f"watch a{letter}/" for letter in "abcd"[:one]), "m")
            self.assertTaken(first, rows.format("".join(f"watch b{letter}/" for letter in "abcd"[:other]), "n"))
            if one > 0:
                more = rows.format("".join(f"watch b{letter}/" for letter in "abcd"[:other + 1]), "n")
                self.assertRefused(first, more)
        self.assertRefused(rows.format("watch x/", "m"), rows.format("watch a/watch b/watch c/watch d/", "n"))

    def test_boxes(self):
        rows = "{}machine {}/room r"
        for one, other in ((1, 2), (2, 1), (0, 3)):
            first = rows.format("".join(f"box a{letter} 0 1 0/" for letter in "abc"[:one]), "m")
            self.assertTaken(first, rows.format("".join(f"box b{letter} 0 1 0/" for letter in "abc"[:other]), "n"))
        self.assertRefused(rows.format("box a 0 1 0/box b 0 1 0/", "m"), rows.format("box c 0 1 0/box d 0 1 0/", "n"))
        self.assertRefused(rows.format("box a 0 1 0/", "m"), rows.format("box b 0 1 0/box c 0 1 0/box d 0 1 0/", "n"))

    def test_machines(self):
        def machines(letters):
            return "/".join(f"machine {letter}/room r" for letter in letters)
        for one, other in (("a", "bcd"), ("ab", "cd"), ("abc", "d")):
            self.assertTaken(machines(one), machines(other))
        for one, other in (("a", "bcde"), ("ab", "cde"), ("abcd", "efgh")):
            self.assertRefused(machines(one), machines(other))

    def test_doors(self):
        def doors(name, count):
            return f"machine {name}/room r" + "/door r r" * count
        for one, other in ((12, 12), (24, 0), (1, 23)):
            self.assertTaken(doors("m", one), doors("n", other))
        for one, other in ((12, 13), (24, 1), (24, 24)):
            self.assertRefused(doors("m", one), doors("n", other))

    def test_rooms_and_prices_are_each_machines_own(self):
        rooms = "/".join(f"room {letter} price {PRICE}" for letter in "abcdef")
        self.assertTaken(f"machine m/{rooms}", f"machine n/{rooms}")


class JustAs(unittest.TestCase):
    """The one with a net beside it that has no stays, no hurry, no weather, and first rooms of the price 0."""

    OTHER = ("watch u/box c 0 1 0/machine k/room r/room s price 9/door r s say on when u > 1 do u = 0, c + 1/"
             "door s r price 3/machine l/room r/room s price 2/door r s hear on")

    def assertAlike(self, one, both, asked, shunned=None):
        told = [[way_to(net, read_ask(net, asked)), priced(net, read_ask(net, asked))] for net in (one, both)]
        for own_told, of_both in zip(*told):
            self.assertEqual(of_both[0], own_told[0])
        if told[0][1][0] == "price":
            self.assertEqual(told[1][1][1], told[0][1][1])
        forces = [forced(net, read_ask(net, asked), shunned and read_ask(net, shunned))[0] for net in (one, both)]
        self.assertEqual(forces[1], forces[0])
        return (told[0][0][0], forces[0])

    def test_by_hand(self):
        one = net_of("watch x/machine m/room r price 3 stay x <= 2/room s price 1/room t hurry/"
                     "door r s price 4 when x > 1/door r t weather when x == 2/door s t weather say go/"
                     "machine n/room r/door r r hear go when x < 9")
        both = beside(one, net_of(self.OTHER))
        for asked, shunned, told in (("m at s", None, ("met", "plan")), ("m at t", None, ("met", "plan")),
                                     ("m at r, x > 2", None, ("never", "counter")),
                                     ("m at t", "m at s", ("met", "plan")),
                                     ("x == 2, m at s", None, ("met", "counter")), ("x > 1", None, ("met", "plan")),
                                     ("m at r", None, ("met", "plan"))):
            self.assertEqual(self.assertAlike(one, both, asked, shunned), told, asked)
        self.assertEqual(priced(both, read_ask(both, "m at s, x > 5"))[1], 3 + 4 + 4)

    def test_the_start_and_acts_are_those_of_both(self):
        one, other = net_of("watch x/box b 0 9 4/machine m/room r/door r r do b + 1"), net_of(self.OTHER)
        both = beside(one, other)
        self.assertEqual(begun(both), (("r", "r", "r"), (4, 0), ((0, 1), (0, 1))))
        self.assertEqual(both.acts(), [(0,), (1, 3), (2,)])
        self.assertEqual(acted(both, begun(both), (0,)), (("r", "r", "r"), (5, 0), ((0, 1), (0, 1))))

    def test_where_the_other_one_is_not_so(self):
        one = net_of("watch x/machine m/room r/room s/door r s when x > 3")
        for rows in ("watch u/machine k/room r stay u <= 2", "machine k/room r hurry"):
            both = beside(one, net_of(rows))
            self.assertEqual(way_to(both, read_ask(both, "m at s"))[0], "never")
        both = beside(one, net_of("machine k/room r price 5"))
        self.assertEqual(priced(both, read_ask(both, "m at s"))[1], 15)

    def test_any(self):
        chance = random.Random(2)
        seen = {}
        for number in range(140):
            yard = with_prices(chance, small_yard(chance, 2))
            other = harmless(renamed(with_prices(chance, small_yard(chance, 1))))
            one, two = read_net(yard_text(yard)), read_net(yard_text(other))
            if len(yard["watches"]) + len(other["watches"]) > 3:
                continue
            asks = [ask_text(small_ask(chance, yard, 2)) for unused in range(2)]
            kind = self.assertAlike(one, beside(one, two), asks[0], asks[1] if number % 2 else None)
            seen[kind] = seen.get(kind, 0) + 1
        self.assertEqual(len(seen), 3)
        self.assertGreater(min(seen.values()), 8)


class Asked(unittest.TestCase):
    def test_nothing_handed_in_is_changed(self):
        one, other = net_of("watch x/machine m/room r/door r r do x = 0"), net_of(JustAs.OTHER)
        kept = (net_told(one), net_told(other))
        both = beside(one, other)
        wanted = net_told(both)
        for unused in range(2):
            both.watches().clear()
            both.doors()[0].resets.clear()
            both.rooms(1).clear()
            self.assertEqual(row_of_refusal(both, other), (NoNet, 0))
            self.assertEqual(net_told(both), wanted)
            self.assertEqual(net_told(beside(one, other)), wanted)
            self.assertEqual((net_told(one), net_told(other)), kept)


class Interface(unittest.TestCase):
    def test_names_and_arguments(self):
        self.assertEqual(str(inspect.signature(own.beside)), "(one, other)")


if __name__ == "__main__":
    unittest.main()
