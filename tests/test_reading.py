import inspect
import itertools
import random
import unittest

from making import BOX_SIGNS, PRICE, ROW_WORDS, WATCH_SIGNS, refused_row, some_yard, yard_text

from watchyard import reading as own
from watchyard.errors import NoNet, WatchError
from watchyard.nets import Net
from watchyard.reading import read_net, shown

ROWS = (
    "watch x",
    "watch y",
    "box b -2 5 0",
    "box k 0 9 9",
    "machine m",
    "room a",
    "room c price 3 hurry stay x <= 5, y < 1",
    "door a c weather say go price 7 when x < 3, b != 4 do x = 0, b + 1",
    "machine n",
    "room a",
    "door a a hear go",
)


def text_of(rows):
    return "".join(f"{row}\n" for row in rows)


def row_of(text):
    """The row by which the text is refused, None where it is read."""
    try:
        read_net(text)
    except NoNet as refusal:
        return refusal.row
    return None


def with_row(number, row):
    """The rows with another one under this number, counted from 1."""
    return ROWS[:number - 1] + (row,) + ROWS[number:]


class Read(unittest.TestCase):
    def assertRead(self, text):
        net = read_net(text)
        self.assertIsInstance(net, Net)
        self.assertEqual(shown(net), text)
        self.assertEqual(shown(read_net(shown(net))), text)

    def test_a_plain_one(self):
        self.assertRead(text_of(ROWS))

    def test_the_least_one(self):
        self.assertRead("machine m\nroom r\n")

    def test_none_of_each(self):
        self.assertRead("watch x\nmachine m\nroom r\ndoor r r\n")
        self.assertRead("box b 0 0 0\nmachine m\nroom r\ndoor r r\n")
        self.assertRead("machine m\nroom r\nmachine n\nroom r\ndoor r r\n")

    def test_the_most_of_each(self):
        names = [f"n{letter}" for letter in "abcdefghijk"]
        rows = [f"watch {name}" for name in names[:4]] + [f"box {name} -20 20 0" for name in names[4:7]]
        for name in names[7:]:
            rows += [f"machine {name}"] + [f"room {room}" for room in "uvwxyz"] + ["door u z"] * 6
        self.assertRead(text_of(rows))
        self.assertEqual(len(read_net(text_of(rows)).doors()), 24)
        one = ["machine m"] + [f"room {room}" for room in "uvwxyz"] + ["door z u"] * 24
        self.assertRead(text_of(one))

    def test_any_ones(self):
        chance = random.Random(1)
        for turn in range(150):
            self.assertRead(yard_text(some_yard(chance, fullest=turn < 10)))

    def test_shown_as_it_was_read_and_not_put_in_order(self):
        self.assertRead("watch y\nwatch x\nmachine m\nroom r price 0 stay y <= 9, x < 3, x < 3\n"
                        "door r r price 0 when y < 0, x >= 0, y < 0 do y = 0, x = 0, y = 0\n")

    def test_each_part_of_a_room_with_and_without_the_others(self):
        for parts in itertools.product(["", " price 4"], ["", " hurry"], ["", " stay x <= 5", " stay y < 2, x <= 0"]):
            self.assertRead(text_of(with_row(7, "room c" + "".join(parts))))

    def test_each_part_of_a_door_with_and_without_the_others(self):
        for parts in itertools.product(
                ["", " weather"], ["", " say go", " hear go"], ["", " price 0"],
                ["", " when b == 1", " when x > 1, b > 0"],
                ["", " do y = 0", " do b = 1, x = 0, b - 2"]):
            self.assertRead(text_of(with_row(8, "door c a" + "".join(parts))))

    def test_all_signs(self):
        for sign in WATCH_SIGNS:
            self.assertRead(text_of(with_row(8, f"door a c when x {sign} 0")))
        for sign in BOX_SIGNS:
            self.assertRead(text_of(with_row(8, f"door a c when b {sign} 0")))
        for sign in "=+-":
            self.assertRead(text_of(with_row(8, f"door a c do b {sign} 1")))
        for sign in ("<", "<="):
            self.assertRead(text_of(with_row(7, f"room c stay y {sign} 1")))

    def test_numbers_just_within_their_bounds(self):
        for row in (
                "room c stay x < 1", "room c stay x < 60", "room c stay x <= 0", "room c stay x <= 60",
                "room c price 0",
                f"room c price {PRICE}", f"room c price {PRICE - 1}"):
            self.assertRead(text_of(with_row(7, row)))
        for row in (
                f"door a c price {PRICE}", "door a c when x < 0", "door a c when x == 60", "door a c when b < -20",
                "door a c when k != 20", "door a c do b = -20", "door a c do b = 20", "door a c do b + 1",
                "door a c do b - 1", "door a c do b + 20", "door a c do b - 20"):
            self.assertRead(text_of(with_row(8, row)))
        for row in (
                "box b -20 20 0", "box b -20 20 20", "box b -20 20 -20", "box b 20 20 20", "box b -20 -20 -20",
                "box b 3 4 3", "box b 3 4 4", "box b 0 0 0"):
            self.assertRead(text_of(with_row(3, row)))

    def test_names_of_one_to_eight_letters(self):
        for name in ("q", "zz", "abcdefgh", "zzzzzzzz"):
            for number, row in ((2, f"watch {name}"), (4, f"box {name} 0 1 0"), (9, f"machine {name}"),
                                (10, f"room {name}"), (8, f"door a c say {name}"), (8, f"door a c hear {name}")):
                rows = with_row(number, row)
                self.assertRead(text_of(rows[:5] + ("room a", "room c") + rows[7:10]))

    def test_names_that_are_words_of_rows(self):
        for name in ROW_WORDS:
            rows = [f"watch {name}", "machine m", f"room {name} stay {name} <= 3", f"door {name} {name} say {name}",
                    f"door {name} {name} price 1 when {name} < 3, {name} > 1 do {name} = 0, {name} = 0"]
            self.assertRead(text_of(rows))
            rows = [f"box {name} 0 3 1", "machine m", f"room {name} price 1 hurry", f"door {name} {name} weather",
                    f"door {name} {name} weather hear {name} price 1 when {name} != 3 do {name} = 0, {name} + 1"]
            self.assertRead(text_of(rows))
            self.assertRead(f"machine {name}\nroom {name}\ndoor {name} {name}\n")

    def test_names_that_may_be_alike(self):
        self.assertRead("machine m\nroom a\nroom b\nmachine n\nroom a\nroom b\ndoor a b\n")
        for name in "xbm":
            self.assertRead(f"watch x\nbox b 0 0 0\nmachine m\nroom {name}\ndoor {name} {name} say {name}\n")
        self.assertRead("machine m\nroom a\ndoor a a say a\ndoor a a say m\ndoor a a hear m\n")

    def test_very_many_conditions(self):
        conds = ", ".join(["x <= 5"] * 5000)
        deeds = ", ".join(["x = 0"] * 5000)
        self.assertRead(f"watch x\nmachine m\nroom a stay {conds}\ndoor a a when {conds} do {deeds}\n")


class Refused(unittest.TestCase):
    def assertRefused(self, number, text):
        self.assertEqual(row_of(text), number, text)

    def assertRowRefused(self, number, row):
        """The row is refused, whatever lies behind it."""
        rows = with_row(number, row)
        self.assertRefused(number, text_of(rows))
        self.assertRefused(number, text_of(rows[:number]))
        self.assertRefused(number, text_of(rows[:number] + ("no row", "", "watch x")))
        self.assertRefused(number, text_of(rows) + "machine m")
        self.assertRefused(number, text_of(rows[:number])[:-1])

    def test_what_is_no_text(self):
        for thing in (None, 0, 1, True, 0.5, b"machine m\nroom r\n", [], ["machine m\n", "room r\n"], {}, (), object(),
                      str, read_net("machine m\nroom r\n")):
            self.assertRefused(1, thing)

    def test_it_is_a_refusal_with_a_row(self):
        with self.assertRaises(WatchError) as caught:
            read_net("machine m\nroom r\nroom r\n")
        self.assertIs(type(caught.exception), NoNet)
        self.assertIs(type(caught.exception.row), int)

    def test_rows_that_lack_at_the_end(self):
        for text, number in (
                ("", 1), ("watch x\n", 2), ("box b 0 0 0\n", 2), ("watch x\nbox b 0 0 0\n", 3), ("machine m\n", 2),
                ("watch x\nmachine m\n", 3), ("machine m\nroom r\nmachine n\n", 4),
                ("machine m\nroom r\ndoor r r\nmachine n\n", 5), ("watch a\nwatch b\nwatch c\nwatch d\n", 5)):
            self.assertRefused(number, text)

    def test_a_last_row_without_its_line_feed(self):
        for number in range(1, len(ROWS) + 1):
            self.assertRefused(number, text_of(ROWS[:number])[:-1])
        self.assertRefused(1, "watch x")
        self.assertRefused(1, " ")
        self.assertRefused(len(ROWS) + 1, text_of(ROWS) + " ")
        self.assertRefused(len(ROWS) + 1, text_of(ROWS) + "machine o")
        self.assertRefused(2, "machine m\nroom r")

    def test_rows_of_nothing(self):
        self.assertRefused(1, "\n")
        self.assertRefused(1, "\n" + text_of(ROWS))
        self.assertRefused(len(ROWS) + 1, text_of(ROWS) + "\n")
        for number in range(1, len(ROWS) + 1):
            self.assertRefused(number, text_of(with_row(number, "")))
            self.assertRefused(number, text_of(ROWS[:number - 1] + ("",)))

    def test_blanks(self):
        for number, row in enumerate(ROWS, start=1):
            places = [place for place, sign in enumerate(row) if sign == " "]
            self.assertRowRefused(number, row + " ")
            self.assertRowRefused(number, " " + row)
            self.assertRowRefused(number, row + "\t")
            self.assertRowRefused(number, row + "\r")
            for place in places:
                self.assertRowRefused(number, row[:place] + " " + row[place:])
                self.assertRowRefused(number, row[:place] + "\t" + row[place + 1:])
                self.assertRowRefused(number, row[:place] + "\u00a0" + row[place + 1:])
                self.assertRowRefused(number, row[:place] + row[place + 1:])

    def test_other_ends_of_rows(self):
        for sign in ("\r\n", "\r", "\x0b", "\x0c", "\x1c", "\x85", "\u2028", "\x00"):
            self.assertRefused(1, sign.join(ROWS) + sign)
            self.assertRefused(1, f"machine m{sign}room r\n")

    def test_a_word_too_many_or_too_few(self):
        for number, row in enumerate(ROWS, start=1):
            words = row.split(" ")
            for more in ("x", "0", "hurry", "price 1", ",", "weather", "do"):
                if not (row == "room a" and more in ("hurry", "price 1")) and not (number == 11 and more == "price 1"):
                    self.assertRowRefused(number, f"{row} {more}")
            if number not in (6, 7, 8, 10, 11):
                self.assertRowRefused(number, " ".join(words[:-1]))
            self.assertRowRefused(number, " ".join(words[1:]))
            self.assertRowRefused(number, words[0])
            self.assertRowRefused(number, row.replace(words[0], words[0].upper(), 1))
        for row in ("room c price", "room c stay", "room c price hurry", "room c stay x", "room c stay x <=",
                    "room c hurry hurry", "room c price 1 price 1", "room c stay x <= 5 stay x <= 5",
                    "room c stay x <= 5,", "room c stay , x <= 5", "room c stay x <= 5,, y < 1",
                    "room c stay x <= 5 , y < 1", "room c stay x <= 5,y < 1", "room c stay x <= 5 y < 1",
                    "room c stay x<=5", "room c weather", "room c say go", "room c when x < 1", "room c do x = 0"):
            self.assertRowRefused(7, row)
        for row in ("door a", "door a c weather weather", "door a c say", "door a c hear", "door a c price",
                    "door a c when", "door a c do", "door a c say go hear go", "door a c say go say go",
                    "door a c when x < 1, do x = 0", "door a c when do x = 0", "door a c do x = 0,", "door a c do x =",
                    "door a c do x", "door a c do x = 0 b = 1", "door a c do x = 0,b = 1", "door a c do , x = 0",
                    "door a c hurry", "door a c stay x < 1", "door a c when x < 1 when x < 1", "door a c do"):
            self.assertRowRefused(8, row)

    def test_parts_in_another_order(self):
        parts = {"price 3": 0, "hurry": 1, "stay x <= 5": 2}
        for some in itertools.chain(itertools.permutations(parts, 2), itertools.permutations(parts, 3)):
            if list(some) != sorted(some, key=parts.get):
                self.assertRowRefused(7, "room c " + " ".join(some))
        parts = {"weather": 0, "say go": 1, "price 7": 2, "when x < 3": 3, "do x = 0": 4}
        for length in (2, 3, 5):
            for some in itertools.permutations(parts, length):
                if list(some) != sorted(some, key=parts.get):
                    self.assertRefused(8, text_of(with_row(8, "door a c " + " ".join(some))))

    def test_numbers_written_otherwise(self):
        for word in ("00", "01", "05", "-0", "-00", "-01", "+1", "+0", "--1", "1-", "-", "", "1.0", "1e1", "0x1", "1_0",
                     "\u0661", "\u00b2", "\uff11", "one", "1\r", "1 ", " 1", "1,", "9" * 5000, "-" + "9" * 5000,
                     "0" * 5000):
            self.assertRefused(7, text_of(with_row(7, f"room c price {word}")))
            self.assertRefused(8, text_of(with_row(8, f"door a c price {word}")))
            self.assertRefused(7, text_of(with_row(7, f"room c stay x <= {word}")))
            self.assertRefused(8, text_of(with_row(8, f"door a c when x < {word}")))
            self.assertRefused(8, text_of(with_row(8, f"door a c when b < {word}, x < 1")))
            self.assertRefused(8, text_of(with_row(8, f"door a c do b = {word}")))
            self.assertRefused(8, text_of(with_row(8, f"door a c do x = {word}")))
            for row in (f"box b {word} 5 0", f"box b -2 {word} 0", f"box b -2 5 {word}"):
                self.assertRefused(3, text_of(with_row(3, row)))

    def test_numbers_just_beyond_their_bounds(self):
        for row in ("box b -21 5 0", "box b -2 21 0", "box b 2 1 1", "box b 2 1 2", "box b 1 5 0", "box b -5 -1 0",
                    "box b 0 5 6", "box b 0 5 -1", "box b -21 -21 -21", "box b 21 21 21", "box b 5 4 5"):
            self.assertRowRefused(3, row)
        for row in (f"room c price {PRICE + 1}", "room c price -1", "room c stay x < 0", "room c stay x < 61",
                    "room c stay x <= 61", "room c stay x <= -1", "room c stay x < -1", f"room c price {PRICE * 10}",
                    "room c stay x <= 5, y < 0"):
            self.assertRowRefused(7, row)
        for row in (f"door a c price {PRICE + 1}", "door a c price -1", "door a c when x < 61", "door a c when x >= -1",
                    "door a c when b < 21", "door a c when b != -21", "door a c do b = 21", "door a c do b = -21",
                    "door a c do b + 0", "door a c do b - 0", "door a c do b + 21", "door a c do b - 21",
                    "door a c do b + -1", "door a c do b - -1", "door a c do x = 1", "door a c do x = 60"):
            self.assertRowRefused(8, row)

    def test_names_that_are_none(self):
        for name in ("abcdefghi", "A", "aB", "a1", "1", "a_b", "a-b", "a.b", "\u00e9", "\u03b1", "a,", "-", "", "<",
                     "x\u0301"):
            for number, row in ((2, f"watch {name}"), (4, f"box {name} 0 9 9"), (9, f"machine {name}"),
                                (6, f"room {name}"), (8, f"door a c say {name}"), (8, f"door a c hear {name}")):
                self.assertRefused(number, text_of(with_row(number, row)))

    def test_names_twice(self):
        for number, row in (
                (2, "watch x"), (3, "box x 0 1 0"), (3, "box y 0 1 0"), (4, "box b 0 9 9"), (5, "machine x"),
                (5, "machine b"), (5, "machine k"), (9, "machine m"), (9, "machine y"), (9, "machine b"),
                (7, "room a"), (7, "room a hurry")):
            self.assertRowRefused(number, row)

    def test_rooms_of_doors(self):
        for row in ("door a z", "door z a", "door a m", "door a x", "door A c", "door a c, c", "door a d"):
            self.assertRowRefused(8, row)
        for row in ("door a c", "door c a", "door c c"):
            self.assertRowRefused(11, row)
        self.assertRefused(6, "machine m\nroom a\nroom c\nmachine n\nroom d\ndoor d a\n")
        self.assertRefused(3, "machine m\nroom a\ndoor a d\nmachine n\nroom d\n")

    def test_signs_and_names_of_conditions(self):
        for row in ("room c stay b <= 5", "room c stay b < 5", "room c stay x >= 1", "room c stay x > 1",
                    "room c stay x == 1", "room c stay x != 1", "room c stay x = 1", "room c stay z < 1",
                    "room c stay m < 1", "room c stay a < 1", "room c stay y < 1, b < 1", "room c stay y < 1, x == 1"):
            self.assertRowRefused(7, row)
        for row in ("door a c when x != 1", "door a c when x = 1", "door a c when b = 1", "door a c when b + 1",
                    "door a c when z < 1", "door a c when m < 1", "door a c when a < 1", "door a c when x =< 1",
                    "door a c when b <> 1", "door a c when 1 < x", "door a c when x < y", "door a c when m at a",
                    "door a c when x < 1; y < 1", "door a c when x < 1, z < 1", "door a c when x < 1, x != 1"):
            self.assertRowRefused(8, row)

    def test_signs_and_names_of_deeds(self):
        for row in ("door a c do x + 0", "door a c do x - 0", "door a c do x == 0", "door a c do x + 1",
                    "door a c do z = 0",
                    "door a c do m = 0", "door a c do b == 1", "door a c do b < 1", "door a c do b * 1",
                    "door a c do b += 1", "door a c do b = k", "door a c do x = y", "door a c do x = b",
                    "door a c do x = 0, x = 1", "door a c do b = 1, z = 0"):
            self.assertRowRefused(8, row)

    def test_rows_out_of_place(self):
        for number, row in (
                (1, "room a"), (1, "door a a"), (1, "machine"), (4, "watch z"), (6, "watch z"), (6, "box z 0 1 0"),
                (6, "door a c"), (6, "machine z"), (7, "watch z"), (7, "box z 0 1 0"), (10, "door a a"),
                (10, "machine z"), (11, "watch z"), (11, "box z 0 0 0"), (9, "room z"), (9, "stay x < 1"),
                (9, "hurry"), (9, "weather"), (3, "room a"), (3, "door a c"), (3, "net"), (3, "# words")):
            self.assertRowRefused(number, row)
        self.assertRefused(4, "machine m\nroom a\ndoor a a\nroom b\n")
        self.assertRefused(5, "machine m\nroom a\nroom b\ndoor a a\nroom c\n")

    def test_one_too_many(self):
        watches = tuple(f"watch w{letter}" for letter in "abcde")
        boxes = tuple(f"box b{letter} 0 0 0" for letter in "abcd")
        machines = tuple(f"machine m{letter}" for letter in "abcde")
        rooms = tuple(f"room {letter}" for letter in "uvwxyza")
        self.assertRefused(5, text_of(watches + machines[:1] + rooms[:1]))
        self.assertRefused(5, text_of(watches))
        self.assertRefused(4, text_of(boxes + machines[:1] + rooms[:1]))
        self.assertRefused(6, text_of(watches[:2] + boxes + machines[:1] + rooms[:1]))
        self.assertRefused(9, text_of([row for machine in machines for row in (machine, "room a")]))
        self.assertRefused(8, text_of(machines[:1] + rooms))
        self.assertRefused(10, text_of(machines[:1] + rooms[:1] + machines[1:2] + rooms))
        self.assertRefused(27, text_of(machines[:1] + rooms[:1] + ("door u u",) * 25))
        self.assertRefused(29, text_of(
            machines[:1] + rooms[:1] + ("door u u",) * 20 + machines[1:2] + rooms[:1] + ("door u u",) * 5))

    def test_any_texts_made_wrong(self):
        chance = random.Random(2)
        seen = []
        for unused in range(120):
            text = yard_text(some_yard(chance))
            self.assertIsNone(refused_row(text))
            for turn in range(12):
                wrong = made_wrong(chance, text, turn % 5)
                seen.append(row_of(wrong))
                self.assertEqual(seen[-1], refused_row(wrong), wrong)
        self.assertGreater(sum(row is None for row in seen), 100)
        self.assertGreater(sum(row is not None for row in seen), 700)


def made_wrong(chance, text, way):
    """The text with a sign left out, a sign put in, or a row left out, put in again or taken elsewhere."""
    place = chance.randrange(len(text))
    rows = text.split("\n")
    row = rows.pop(chance.randrange(len(rows)))
    if way == 0:
        return text[:place] + text[place + 1:]
    if way == 1:
        return text[:place] + chance.choice("0 1-\n,ab9<=>\r\t") + text[place:]
    if way == 2:
        return "\n".join(rows)
    rows.insert(chance.randrange(len(rows) + 1), row)
    if way == 3:
        rows.insert(chance.randrange(len(rows) + 1), row)
    return "\n".join(rows)


class Interface(unittest.TestCase):
    def test_names_and_arguments(self):
        self.assertEqual(str(inspect.signature(own.read_net)), "(text)")
        self.assertEqual(str(inspect.signature(own.shown)), "(net)")

    def test_asked_again_the_same_is_told(self):
        text, other = text_of(ROWS), "machine m\nroom r\n"
        one, two = read_net(text), read_net(other)
        for unused in range(3):
            self.assertEqual((shown(one), shown(two), shown(read_net(text))), (text, other, text))
            self.assertEqual(row_of("machine m\nroom r\nroom r\n"), 3)


if __name__ == "__main__":
    unittest.main()
