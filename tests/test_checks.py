import copy
import inspect
import random
import unittest

from making import PRICE, Looked, ask_text, book_faults, counter_faults, plan_faults, small_ask, small_yard, text_of
from making import yard_text
from paying import changed_books, changed_counters, changed_plans, changed_price_books, exchanged, other_spots
from paying import price_book_faults, with_prices

from watchyard import checks as own
from watchyard.asks import read_ask
from watchyard.checks import is_book, is_counter, is_plan, is_price_book
from watchyard.force import forced
from watchyard.prices import priced
from watchyard.reading import read_net
from watchyard.ways import way_to


def places(*cells):
    """Spots of the room r, with one watch."""
    return [(("r",), (), (cell,)) for cell in cells]


class Cases(unittest.TestCase):
    def setUp(self):
        self.seen = {}

    def assertTold(self, told, wanted, what):
        self.assertIs(told, wanted, what)
        self.seen[told] = self.seen.get(told, 0) + 1

    def asked(self, text, *asks):
        net = read_net(text)
        return [net] + [None if ask is None else read_ask(net, ask) for ask in asks]


class Books(Cases):
    TEXT = text_of("watch x/machine m/room r stay x <= 1/room s/room t/door r s when x > 0/door t s")

    def test_by_hand(self):
        net, ask = self.asked(self.TEXT, "m at t")
        book = way_to(net, ask)[1]
        self.assertIs(is_book(net, ask, book), True)
        self.assertIs(is_book(net, ask, []), False)
        self.assertIs(is_book(net, ask, book[::-1]), False)
        for place in range(len(book)):
            self.assertIs(is_book(net, ask, book[:place] + book[place + 1:]), False)
            self.assertIs(is_book(net, ask, book[:place] + [book[place]] + book[place:]), False)
        # A spot that the rest doesn't lead to, and that leads to the rest alone.
        other = (("s",), (), ((0, 0),))
        self.assertNotIn(other, book)
        self.assertIs(is_book(net, ask, sorted(book + [other])), True)
        self.assertIs(is_book(net, ask, book + [other]), False)
        # One that meets the ask.
        self.assertIs(is_book(net, ask, sorted(book + [(("t",), (), ((1, 0),))])), False)

    def test_another_ask(self):
        net, ask, other = self.asked(self.TEXT, "m at t", "m at t, x < 1")
        book = way_to(net, ask)[1]
        self.assertIs(is_book(net, other, book), True)
        # One more spot that leads to some that are not there.
        self.assertIs(is_book(net, other, sorted(book + [(("t",), (), ((1, 0),))])), False)
        more = [(("t",), (), (cell,)) for cell in ((1, 0), (2, 0))]
        self.assertIs(is_book(net, other, sorted(book + more)), True)
        net, met = self.asked(self.TEXT, "m at s")
        self.assertIs(is_book(net, met, book), False)
        self.assertIs(is_book(net, met, places((0, 0), (0, 1), (1, 0))), False)

    def test_waits_are_looked_at(self):
        net, ask = self.asked(text_of("watch x/machine m/room r stay x <= 1"), "x > 1")
        self.assertIs(is_book(net, ask, places((0, 0), (0, 1), (1, 0))), True)
        self.assertIs(is_book(net, ask, places((0, 0), (0, 1))), False)
        self.assertIs(is_book(net, ask, places((0, 0))), False)
        net, ask = self.asked(text_of("watch x/machine m/room r hurry"), "x > 1")
        self.assertIs(is_book(net, ask, places((0, 0))), True)
        self.assertIs(is_book(net, ask, places((0, 0), (0, 1))), True)
        self.assertIs(is_book(net, ask, places((0, 1))), False)

    def test_any(self):
        chance = random.Random(1)
        for unused in range(130):
            yard = small_yard(chance, 2)
            asked = small_ask(chance, yard, 2)
            net, ask = self.asked(yard_text(yard), ask_text(asked))
            word, book = way_to(net, ask)
            if word == "met" or len(book) > 40:
                continue
            self.assertTold(is_book(net, ask, book), True, book)
            looked = Looked(yard, [asked])
            more = other_spots(chance, yard, looked.most, book, 6)
            for changed in changed_books(book, more):
                wanted = book_faults(yard, asked, changed, looked) == []
                self.assertTold(is_book(net, ask, changed), wanted, changed)
        self.assertGreater(min(self.seen[True], self.seen[False]), 40)


class Plans(Cases):
    TEXT = text_of("watch x/machine m/room r stay x <= 1/room s/room t/door r s weather when x == 1/door s t/door r t "
                   "weather when x < 1/door s s")

    def test_by_hand(self):
        net, ask, shun = self.asked(self.TEXT, "m at t", "m at s")
        plan = forced(net, ask)[1]
        self.assertIs(is_plan(net, ask, None, plan), True)
        self.assertIs(is_plan(net, ask, shun, plan), False)
        self.assertIs(is_plan(net, ask, None, []), False)
        numbers = {spot: number for number, (spot, rank, word) in enumerate(plan)}
        waits, yields = places((0, 0), (1, 0))
        goes, met = (("s",), (), ((1, 0),)), (("t",), (), ((1, 0),))
        for spot, rank, word, right in (
                (waits, 4, ("wait",), True), (waits, 9, ("wait",), True), (waits, 3, ("wait",), False),
                (waits, 0, ("wait",), False), (waits, 4, ("yield",), False), (waits, 4, ("go", (1,)), False),
                (waits, 4, ("go", (2,)), False), (waits, 4, ("met",), False), (waits, 0, ("met",), False),
                (yields, 2, ("yield",), True), (yields, 1, ("yield",), False), (yields, 3, ("yield",), False),
                (yields, 2, ("wait",), False), (yields, 2, ("go", (0,)), False), (yields, 2, ("let",), False),
                (goes, 1, ("go", (1,)), True), (goes, True, ("go", (1,)), False),
                (goes, 2, ("go", (1,)), False), (goes, 1, ("go", (3,)), False),
                (goes, 1, ("go", (0,)), False), (goes, 1, ("go", (99,)), False), (goes, 1, ("go", ()), False),
                (goes, 1, ("cut", (1,)), False), (goes, 1, ("wait",), False), (goes, 1, ("go",), False),
                (goes, 1, ("go", (True,)), False), (goes, 1, ("go", (1,), ()), False), (goes, 1, (), False),
                (met, 0, ("met",), True), (met, 1, ("met",), False), (met, -1, ("met",), False),
                (met, 0, ("wait",), False), (met, 0, ("go", (1,)), False), (met, 0, ("lost",), False)):
            changed = exchanged(plan, numbers[spot], (spot, rank, word))
            self.assertIs(is_plan(net, ask, None, changed), right, (spot, rank, word))

    def test_with_a_shun(self):
        net, ask, shun, other = self.asked(self.TEXT, "m at t", "m at s, x > 1", "x == 60")
        plan = forced(net, ask, shun)[1]
        self.assertIs(is_plan(net, ask, shun, plan), True)
        self.assertIs(is_plan(net, ask, None, plan), True)
        # With greater numbers there are other spots.
        greater = forced(net, ask, other)[1]
        self.assertIs(is_plan(net, ask, other, greater), True)
        self.assertGreater(len(greater), len(plan))
        lost = (("s",), (), ((2, 0),))
        self.assertNotIn(lost, [entry[0] for entry in plan])
        for rank, word in ((1, ("go", (1,))), (0, ("met",)), (1, ("lost",))):
            self.assertIs(is_plan(net, ask, shun, sorted(plan + [(lost, rank, word)])), False)

    def test_ranks_need_not_be_the_least(self):
        net, ask = self.asked(self.TEXT, "m at t")
        plan = forced(net, ask)[1]
        self.assertIs(is_plan(net, ask, None, [(spot, 7 * rank, word) for spot, rank, word in plan]), True)
        self.assertIs(is_plan(net, ask, None, [(spot, rank * 10 ** 50, word) for spot, rank, word in plan]), True)
        self.assertIs(is_plan(net, ask, None, [(spot, rank - 1, word) for spot, rank, word in plan]), False)
        self.assertIs(is_plan(net, ask, None, [(spot, rank + 1, word) for spot, rank, word in plan]), False)

    def test_any(self):
        chance = random.Random(2)
        for number in range(160):
            yard = small_yard(chance, 2, chance.choice([0.15, 0.3, 0.5]))
            asked, shunned = small_ask(chance, yard, 2), small_ask(chance, yard, 2) if number % 2 else None
            net, ask, shun = self.asked(yard_text(yard), ask_text(asked), shunned and ask_text(shunned))
            word, plan = forced(net, ask, shun)
            if word == "counter" or not 2 < len(plan) <= 14:
                continue
            self.assertTold(is_plan(net, ask, shun, plan), True, plan)
            looked = Looked(yard, [asked] + ([shunned] if shunned else []))
            more = other_spots(chance, yard, looked.most, [entry[0] for entry in plan], 3)
            for changed in changed_plans(yard, plan, more):
                wanted = plan_faults(yard, asked, shunned, changed, looked) == []
                self.assertTold(is_plan(net, ask, shun, changed), wanted, changed)
        self.assertGreater(min(self.seen[True], self.seen[False]), 200)


class Counters(Cases):
    TEXT = text_of("watch x/machine m/room r stay x <= 1/room s/room t/door r s when x == 1/door s t/door r t "
                   "weather when x == 1/door r r weather when x < 1/door t t/door t r")

    def test_by_hand(self):
        net, ask, shun = self.asked(self.TEXT, "m at s", "m at t, x > 1")
        counter = forced(net, ask)[1]
        self.assertIs(is_counter(net, ask, None, counter), True)
        self.assertIs(is_counter(net, ask, shun, counter), False)
        self.assertIs(is_counter(net, ask, None, []), False)
        numbers = {spot: number for number, (spot, word) in enumerate(counter)}
        start, early, still = places((0, 0), (0, 1), (1, 0))
        behind = (("t",), (), ((1, 0),))
        self.assertEqual(dict(counter)[still], ("cut", (2,)))
        for spot, word, right in (
                (start, ("let",), True), (start, ("cut", (3,)), True), (start, ("cut", (2,)), False),
                (start, ("cut", (0,)), False), (start, ("lost",), False), (start, ("met",), False),
                (start, ("wait",), False), (start, ("go", (3,)), False), (start, ("cut", (99,)), False),
                (start, ("cut",), False), (start, ("cut", ()), False), (start, ("let", (3,)), False),
                (start, (), False),
                (still, ("let",), False), (still, ("cut", (2,)), True), (still, ("cut", (3,)), False),
                (early, ("let",), True), (behind, ("let",), True), (behind, ("cut", (2,)), False),
                (behind, ("lost",), False), (behind, ("cut", (4,)), False)):
            changed = exchanged(counter, numbers[spot], (spot, word))
            self.assertIs(is_counter(net, ask, None, changed), right, (spot, word))
        # Who cuts at the start needs nothing else.
        self.assertIs(is_counter(net, ask, None, [(start, ("cut", (3,)))]), True)
        self.assertIs(is_counter(net, ask, None, [(start, ("let",))]), False)
        self.assertIs(is_counter(net, ask, None, [(early, ("cut", (3,)))]), False)

    def test_with_a_shun(self):
        net, ask, shun, other = self.asked(self.TEXT, "m at s", "m at t, x > 1", "x == 60")
        counter = forced(net, ask, shun)[1]
        self.assertIs(is_counter(net, ask, shun, counter), True)
        lost = (("t",), (), ((2, 0),))
        self.assertEqual(dict(counter)[lost], ("lost",))
        place = counter.index((lost, ("lost",)))
        self.assertIs(is_counter(net, ask, shun, exchanged(counter, place, (lost, ("let",)))), False)
        self.assertIs(is_counter(net, ask, None, counter), False)
        self.assertIs(is_counter(net, ask, None, exchanged(counter, place, (lost, ("let",)))), True)
        self.assertIs(is_counter(net, ask, other, forced(net, ask, other)[1]), True)
        # The ask is looked at where it is not lost.
        met = (("s",), (), ((1, 0),))
        self.assertIs(is_counter(net, ask, shun, sorted(counter + [(met, ("let",))])), False)
        self.assertIs(is_counter(net, ask, ask, forced(net, ask, ask)[1]), True)

    def test_where_we_could_yield(self):
        text = text_of("watch x/machine m/room r {}/room s/room t/door r s weather/door s r")
        net, ask = self.asked(text.replace("{}", "hurry"), "m at t")
        self.assertIs(is_counter(net, ask, None, forced(net, ask)[1]), True)
        for stay, right in (("stay x < 1", True), ("stay x <= 0", False), ("hurry", False)):
            net, ask = self.asked(text.replace("{}", stay), "m at t")
            counter = [(spot, ("let",)) for spot, word in forced(net, ask)[1]]
            self.assertIs(is_counter(net, ask, None, counter), right, stay)

    def test_any(self):
        chance = random.Random(3)
        for number in range(160):
            yard = small_yard(chance, 2, chance.choice([0.3, 0.5, 0.7]))
            asked, shunned = small_ask(chance, yard, 2), small_ask(chance, yard, 2) if number % 2 else None
            net, ask, shun = self.asked(yard_text(yard), ask_text(asked), shunned and ask_text(shunned))
            word, counter = forced(net, ask, shun)
            if word == "plan" or not 2 < len(counter) <= 14:
                continue
            self.assertTold(is_counter(net, ask, shun, counter), True, counter)
            looked = Looked(yard, [asked] + ([shunned] if shunned else []))
            more = other_spots(chance, yard, looked.most, [entry[0] for entry in counter], 3)
            for changed in changed_counters(yard, counter, more):
                wanted = counter_faults(yard, asked, shunned, changed, looked) == []
                self.assertTold(is_counter(net, ask, shun, changed), wanted, changed)
        self.assertGreater(min(self.seen[True], self.seen[False]), 100)


class PriceBooks(Cases):
    TEXT = text_of("watch x/machine m/room r price 3/room s/room t/door r s price 2 when x > 1/door r t")

    def test_by_hand(self):
        net, ask = self.asked(self.TEXT, "m at s")
        word, price, book = priced(net, ask)
        self.assertEqual((word, price), ("price", 5))
        self.assertIs(is_price_book(net, ask, 5, book), True)
        for other in (4, 6, 0, -5, 10 ** 60):
            self.assertIs(is_price_book(net, ask, other, book), False)
        self.assertIs(is_price_book(net, ask, 5, []), False)
        self.assertIs(is_price_book(net, ask, 5, book[::-1]), False)
        numbers = {spot: number for number, (spot, heights) in enumerate(book)}
        start, early, still, late = places((0, 0), (0, 1), (1, 0), (2, 0))
        met, dead = (("s",), (), ((2, 0),)), (("t",), (), ((0, 0),))
        last = (("t",), (), ((2, 0),))
        for spot, heights, right in (
                (start, (5,), True), (start, (6,), False), (start, (4,), False), (start, None, False),
                (early, (5, 2), True), (early, (4, 2), False), (early, (6, 2), False), (early, (5, 1), False),
                (early, (5, 3), False), (early, (2, 5), False), (early, (5,), False), (early, (5, 2, 2), False),
                (early, (), False), (early, None, False), (early, (5, True), False), (still, (3,), False),
                (still, (2,), True), (late, (2,), True), (late, (3,), False), (late, (1,), False), (late, None, False),
                (met, (0,), True), (met, (False,), False), (met, (1,), False), (met, (-1,), False),
                (met, None, False), (met, (0, 0), False),
                (dead, (0,), False), (dead, (10 ** 40,), True), (dead, (5,), True), (dead, (4,), False),
                (last, (2,), False), (last, (10 ** 40,), False)):
            changed = exchanged(book, numbers[spot], (spot, heights))
            self.assertIs(is_price_book(net, ask, 5, changed), right, (spot, heights))

    def test_each_corner_and_each_reset(self):
        text = text_of("watch x/watch y/machine m/room r price 3/room s price 1 stay y < 1/room t/"
                       "door r s price 2 when x > 0, x < 1 do y = 0/door s t price 4 when x == 1")
        net, ask = self.asked(text, "m at t")
        word, price, book = priced(net, ask)
        self.assertEqual(price, 7)
        self.assertIs(is_price_book(net, ask, 7, book), True)
        heights = dict(book)
        spot = (("s",), (), ((0, 2), (0, 1)))
        self.assertEqual(heights[spot], (5, 4, 4))
        place = [entry[0] for entry in book].index(spot)
        for number in range(3):
            more = heights[spot][:number] + (heights[spot][number] + 1,) + heights[spot][number + 1:]
            self.assertIs(is_price_book(net, ask, 7, exchanged(book, place, (spot, more))), False, number)

    def test_lower_heights_are_heights(self):
        net, ask = self.asked(self.TEXT, "m at s")
        book = priced(net, ask)[2]
        lower = [(spot, heights and tuple(height - 3 for height in heights)) for spot, heights in book]
        self.assertIs(is_price_book(net, ask, 2, lower), True)
        self.assertIs(is_price_book(net, ask, 5, lower), False)
        noughts = [(spot, heights and (0,) * len(heights)) for spot, heights in book]
        self.assertIs(is_price_book(net, ask, 0, noughts), True)
        higher = [(spot, heights and tuple(height + 1 for height in heights)) for spot, heights in book]
        self.assertIs(is_price_book(net, ask, 6, higher), False)

    def test_never(self):
        net, ask = self.asked(self.TEXT, "m at s, x < 1")
        book = priced(net, ask)[1]
        nothing = [(spot, None) for spot in book]
        for price in (0, 1, PRICE):
            self.assertIs(is_price_book(net, ask, price, nothing), False)

    def test_rooms_that_hurry(self):
        rows = "watch x/machine m/room r{}/room h{}/room t/door r h when x < 1/door h t"
        net, ask = self.asked(text_of(rows.format("", " price 1 hurry")), "m at t, x >= 1")
        word, price, book = priced(net, ask)
        self.assertEqual(price, 0)
        spot = (("h",), (), ((0, 1),))
        place = [entry[0] for entry in book].index(spot)
        self.assertIs(is_price_book(net, ask, 0, exchanged(book, place, (spot, (0, -9)))), False)
        # There the heights of both corners have nothing to do with one another.
        net, ask = self.asked(text_of(rows.format(" price 5", " hurry")), "m at r, x == 1")
        book = priced(net, ask)[2]
        place = [entry[0] for entry in book].index(spot)
        self.assertEqual(book[place][1], None)
        self.assertIs(is_price_book(net, ask, 5, exchanged(book, place, (spot, (99, 5)))), True)
        self.assertIs(is_price_book(net, ask, 5, exchanged(book, place, (spot, (99, -1)))), False)
        slow, asked = self.asked(text_of(rows.format(" price 5", "")), "m at r, x == 1")
        book = priced(slow, asked)[2]
        place = [entry[0] for entry in book].index(spot)
        self.assertIs(is_price_book(slow, asked, 5, exchanged(book, place, (spot, (99, 5)))), False)

    def test_any(self):
        chance = random.Random(4)
        for unused in range(160):
            yard = with_prices(chance, small_yard(chance, 2), chance.choice([2, 9, PRICE]))
            asked = small_ask(chance, yard, 2)
            net, ask = self.asked(yard_text(yard), ask_text(asked))
            told = priced(net, ask)
            if told[0] == "never" or not 2 < len(told[2]) <= 20:
                continue
            price, book = told[1:]
            self.assertTold(is_price_book(net, ask, price, book), True, book)
            looked = Looked(yard, [asked])
            more = other_spots(chance, yard, looked.most, [entry[0] for entry in book], 4)
            for changed in changed_price_books(book, more):
                for other in (price, price - 1, 0):
                    wanted = price_book_faults(yard, asked, other, changed, looked) == []
                    self.assertTold(is_price_book(net, ask, other, changed), wanted, changed)
        self.assertGreater(min(self.seen[True], self.seen[False]), 400)


class Told(Cases):
    def test_what_is_told_is_right(self):
        chance = random.Random(5)
        seen = {}
        for number in range(500):
            most = chance.choice([1, 2, 3])
            yard = with_prices(chance, small_yard(chance, most))
            asks = [ask_text(small_ask(chance, yard, most)) for unused in range(2)]
            net, ask, shun = self.asked(yard_text(yard), *asks)
            shun = shun if number % 2 else None
            way, force, price = way_to(net, ask), forced(net, ask, shun), priced(net, ask)
            for told in (way, force, price):
                seen[told[0]] = seen.get(told[0], 0) + 1
            if way[0] == "never":
                self.assertIs(is_book(net, ask, way[1]), True)
                self.assertIs(is_book(net, ask, price[1]), True)
            else:
                self.assertIs(is_price_book(net, ask, price[1], price[2]), True)
                self.assertIs(is_price_book(net, ask, price[1] + 1, price[2]), False)
                self.assertIs(is_book(net, ask, [spot for spot, heights in price[2]]), False)
            fits = {"plan": is_plan, "counter": is_counter}[force[0]]
            self.assertIs(fits(net, ask, shun, force[1]), True)
        self.assertGreater(min(seen.values()), 90)


class Asked(Cases):
    def test_nothing_handed_in_is_changed(self):
        net, ask, shun = self.asked(Plans.TEXT, "m at t", "m at s")
        lists = [way_to(net, read_ask(net, "m at s, x < 1"))[1], forced(net, ask)[1], forced(net, ask, shun)[1],
                 priced(net, ask)[2]]
        kept = copy.deepcopy(lists)

        def all_told():
            return [is_book(net, read_ask(net, "m at s, x < 1"), lists[0]), is_plan(net, ask, None, lists[1]),
                    is_plan(net, ask, shun, lists[1]), is_counter(net, ask, shun, lists[2]),
                    is_counter(net, ask, None, lists[2]), is_price_book(net, ask, 0, lists[3]),
                    is_price_book(net, ask, 1, lists[3])]

        for unused in range(3):
            self.assertEqual(all_told(), [True, True, False, True, False, True, False])
            self.assertEqual(lists, kept)

    def test_by_turns(self):
        one, ask = self.asked(PriceBooks.TEXT, "m at s")
        other, again = self.asked(PriceBooks.TEXT.replace("price 3", "price 4"), "m at s")
        book, dearer = priced(one, ask)[2], priced(other, again)[2]
        for unused in range(3):
            self.assertIs(is_price_book(one, ask, 5, book), True)
            self.assertIs(is_price_book(other, again, 6, dearer), True)
            self.assertIs(is_price_book(one, ask, 6, dearer), False)
            self.assertIs(is_price_book(other, again, 5, book), True)


class Interface(unittest.TestCase):
    def test_names_and_arguments(self):
        for name, arguments in {"is_book": "(net, ask, book)", "is_plan": "(net, ask, shun, plan)",
                                "is_counter": "(net, ask, shun, counter)",
                                "is_price_book": "(net, ask, price, book)"}.items():
            self.assertEqual(str(inspect.signature(getattr(own, name))), arguments, name)


if __name__ == "__main__":
    unittest.main()
