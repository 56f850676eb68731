import copy
import inspect
import random
import unittest
from fractions import Fraction

from making import (
    PRICE, SIXTY, some_yard, yard_acted, yard_acts, yard_doors, yard_rooms, yard_start, yard_text, yard_waited)

from watchyard import runs as own
from watchyard.errors import NoAct, NoWait, WatchError
from watchyard.reading import read_net
from watchyard.runs import lasts, ran, spent
from watchyard.states import begun

LAMP = read_net(
    "watch x\nwatch y\nbox b 0 2 0\n"
    "machine lamp\nroom off price 1\nroom on price 10 stay x <= 5\nroom hot price 100 hurry\n"
    "door off on price 3 do x = 0, b + 1\ndoor on off when x >= 2\ndoor on hot price 4 do y = 0\ndoor hot off\n"
    "machine cat\nroom here price 1000\nroom gone\ndoor here gone price 5\n")
NOUGHT = (0, 1)


def refusal_of(called, net, run):
    try:
        called(net, run)
    except WatchError as refusal:
        return (type(refusal), refusal.at)
    return None


def pair_of(number):
    return (number.numerator, number.denominator)


class Ran(unittest.TestCase):
    def test_no_entry(self):
        self.assertEqual(ran(LAMP, []), [begun(LAMP)])

    def test_one_entry(self):
        off = ("off", "here")
        self.assertEqual(ran(LAMP, [((3, 2), ())]), [begun(LAMP), (off, (0,), ((3, 2), (3, 2)))])
        self.assertEqual(ran(LAMP, [(NOUGHT, ())]), [begun(LAMP)] * 2)
        self.assertEqual(ran(LAMP, [(NOUGHT, (0,))]), [begun(LAMP), (("on", "here"), (1,), (NOUGHT, NOUGHT))])
        self.assertEqual(ran(LAMP, [((1, 3), (4,))]), [begun(LAMP), (("off", "gone"), (0,), ((1, 3), (1, 3)))])

    def test_many_entries(self):
        run = [((1, 2), (0,)), ((2, 1), (1,)), ((1, 3), ()), (NOUGHT, (0,)), ((5, 1), (2,)), (NOUGHT, (3,))]
        run = run + [((9, 1), (4,))]
        self.assertEqual(ran(LAMP, run), [
            begun(LAMP),
            (("on", "here"), (1,), (NOUGHT, (1, 2))),
            (("off", "here"), (1,), ((2, 1), (5, 2))),
            (("off", "here"), (1,), ((7, 3), (17, 6))),
            (("on", "here"), (2,), (NOUGHT, (17, 6))),
            (("hot", "here"), (2,), ((5, 1), NOUGHT)),
            (("off", "here"), (2,), ((5, 1), NOUGHT)),
            (("off", "gone"), (2,), ((14, 1), (9, 1)))])

    def test_the_wait_comes_ahead_of_the_act(self):
        self.assertEqual(refusal_of(ran, LAMP, [(NOUGHT, (0,)), ((2, 1), (1,))]), None)
        self.assertEqual(refusal_of(ran, LAMP, [(NOUGHT, (0,)), ((1, 1), (1,))]), (NoAct, 1))
        self.assertEqual(refusal_of(ran, LAMP, [((9, 1), (0,)), ((5, 1), ())]), None)

    def test_two_hundred_entries(self):
        net = read_net("watch x\nbox b -20 20 0\nmachine m\nroom r price 2\n"
                       "door r r price 1 do b + 1\ndoor r r do b - 1\n")
        run = [((1, 3), (place % 2,)) for place in range(200)]
        states = ran(net, run)
        self.assertEqual(len(states), 201)
        self.assertEqual(states[-1], (("r",), (0,), ((200, 3),)))
        self.assertEqual(states[101], (("r",), (1,), ((101, 3),)))
        self.assertEqual((lasts(run), spent(net, run)), ((200, 3), (700, 3)))
        self.assertEqual(refusal_of(ran, net, run + [((-1, 3), ())]), (NoWait, 200))

    def test_sixty_figures(self):
        chance = random.Random(8)
        net = read_net("watch w\nwatch x\nwatch y\nwatch z\n"
                       f"machine m\nroom r price {PRICE}\ndoor r r price 1 do z = 0\n")
        run = []
        for unused in range(200):
            wait = Fraction(chance.randint(1, SIXTY), chance.randint(1, SIXTY))
            run.append((pair_of(wait), chance.choice([(), (), (0,)])))
        total = sum(Fraction(*wait) for wait, act in run)
        states = ran(net, run)
        self.assertEqual(states[-1][2][:3], (pair_of(total),) * 3)
        self.assertEqual(lasts(run), pair_of(total))
        self.assertEqual(spent(net, run), pair_of(total * PRICE + sum(len(act) for wait, act in run)))
        # What was told may be handed in again, however great.
        again = run + [(lasts(run), ()), (states[-1][2][3], ())]
        self.assertEqual(lasts(again), pair_of(2 * total + Fraction(*states[-1][2][3])))
        self.assertEqual(ran(net, again)[:-2], states)
        self.assertEqual(ran(net, again)[-1][2][0], lasts(again))


class Refused(unittest.TestCase):
    def assertRefused(self, kind, at, run):
        for called in (ran, spent):
            self.assertEqual(refusal_of(called, LAMP, run), (kind, at), run)

    def test_by_the_wait(self):
        self.assertRefused(NoWait, 0, [((-1, 2), ())])
        self.assertRefused(NoWait, 1, [(NOUGHT, (0,)), ((26, 5), ())])
        self.assertRefused(NoWait, 2, [(NOUGHT, (0,)), (NOUGHT, (2,)), ((1, 9), (3,))])
        self.assertRefused(NoWait, 3, [(NOUGHT, (0,)), ((5, 1), ()), (NOUGHT, ()), ((1, SIXTY), ())])

    def test_by_the_act(self):
        self.assertRefused(NoAct, 0, [(NOUGHT, (1,))])
        self.assertRefused(NoAct, 1, [(NOUGHT, (0,)), (NOUGHT, (0,))])
        self.assertRefused(NoAct, 1, [(NOUGHT, (0,)), ((19, 10), (1,))])
        self.assertRefused(NoAct, 4, [(NOUGHT, (0,)), ((2, 1), (1,))] * 2 + [(NOUGHT, (0,))])

    def test_by_both_the_wait_first(self):
        self.assertRefused(NoWait, 0, [((-1, 1), (1,))])
        self.assertRefused(NoWait, 0, [((-1, 1), (99,))])
        self.assertRefused(NoWait, 1, [(NOUGHT, (0,)), ((6, 1), (3,))])
        self.assertRefused(NoWait, 1, [(NOUGHT, (0,)), ((6, 1), None)])

    def test_by_the_first_entry(self):
        self.assertRefused(NoAct, 0, [(NOUGHT, (3,)), ((-1, 1), ())])
        self.assertRefused(NoAct, 1, [(NOUGHT, ()), (NOUGHT, (77,)), ((-1, 1), ())])
        self.assertRefused(NoWait, 1, [(NOUGHT, ()), ((-1, 1), ()), (NOUGHT, (77,))])

    def test_by_an_act_that_is_none(self):
        for thing in ((5,), (-1,), (0, 0), (0, 4), [0], [], None, 0, "", "0", {}, False, (0.0,), (False,), ([],), ((),),
                      object(), (10 ** 60,)):
            self.assertRefused(NoAct, 0, [(NOUGHT, thing)])
            self.assertRefused(NoAct, 2, [((1, 2), ()), (NOUGHT, (0,)), ((1, 2), thing), ((-1, 1), ())])

    def test_a_door_with_a_word_alone(self):
        net = read_net("machine m\nroom r\ndoor r r say w\nmachine n\nroom r\ndoor r r hear w\n")
        self.assertEqual(len(ran(net, [(NOUGHT, (0, 1))] * 3)), 4)
        for act in ((0,), (1,), (1, 0)):
            self.assertEqual(refusal_of(ran, net, [(NOUGHT, (0, 1)), (NOUGHT, act)]), (NoAct, 1))


class Sums(unittest.TestCase):
    def test_how_long_runs_last(self):
        self.assertEqual(lasts([]), NOUGHT)
        self.assertEqual(lasts([((1, 2), ())]), (1, 2))
        self.assertEqual(lasts([((1, 2), (0,)), ((1, 3), ()), ((1, 6), (2,)), (NOUGHT, ())]), (1, 1))
        self.assertEqual(lasts([((1, SIXTY), ())] * 3), (1, SIXTY // 3))

    def test_prices(self):
        self.assertEqual(spent(LAMP, []), NOUGHT)
        self.assertEqual(spent(LAMP, [(NOUGHT, ())]), NOUGHT)
        self.assertEqual(spent(LAMP, [(NOUGHT, (0,))]), (3, 1))
        self.assertEqual(spent(LAMP, [((1, 2), ())]), (1001, 2))

    def test_each_wait_at_the_rate_of_the_rooms_ahead(self):
        self.assertEqual(spent(LAMP, [((1, 2), (0,))]), (1001 + 6, 2))
        price = Fraction(1001, 2) + 5 + Fraction(1, 3)
        self.assertEqual(spent(LAMP, [((1, 2), (4,)), ((1, 3), ())]), pair_of(price))
        run = [((1, 2), (0,)), ((5, 2), (4,)), ((1, 7), (2,)), (NOUGHT, (3,)), ((2, 1), (0,))]
        price = Fraction(1001, 2) + 3 + 1010 * Fraction(5, 2) + 5 + Fraction(10, 7) + 4 + 2 + 3
        self.assertEqual(spent(LAMP, run), pair_of(price))

    def test_acts_of_two_doors(self):
        net = read_net("machine m\nroom r price 7\ndoor r r say w price 20\n"
                       "machine n\nroom r\nroom s price 1\ndoor r s hear w price 300\n")
        self.assertEqual(spent(net, [((1, 1), (0, 1)), ((1, 1), ())]), (7 + 320 + 8, 1))

    def test_prices_that_are_great(self):
        rows = [f"machine {name}\nroom r price {PRICE}\n" for name in "mnop"] + [f"door r r price {PRICE}\n"]
        net = read_net("".join(rows))
        self.assertEqual(spent(net, [((1, SIXTY), (0,))]), pair_of(Fraction(4 * PRICE, SIXTY) + PRICE))


class AnyNets(unittest.TestCase):
    def test_runs(self):
        chance = random.Random(9)
        seen = {NoWait: 0, NoAct: 0, None: 0}
        for turn in range(400):
            yard = some_yard(chance, most=6, fullest=turn < 30)
            net = read_net(yard_text(yard))
            run, states, price, refusal = some_run(chance, yard)
            seen[refusal and refusal[0]] += 1
            for called in (ran, spent):
                self.assertEqual(refusal_of(called, net, run), refusal)
            self.assertEqual(lasts(run), pair_of(sum([Fraction(*wait) for wait, act in run], Fraction(0))))
            if refusal is None:
                self.assertEqual(ran(net, run), states)
                self.assertEqual(spent(net, run), pair_of(price))
        for kind, count in seen.items():
            self.assertGreater(count, 40, kind)


def some_run(chance, yard):
    """A run, its states, its price and its refusal, None where it can be done."""
    run, states, price = [], [yard_start(yard)], Fraction(0)
    for unused in range(chance.randint(0, 6)):
        wait = pair_of(Fraction(chance.choice([0, 0, 1, 1, 1, 2, 30, -1]), chance.choice([1, 2, 3])))
        later = yard_waited(yard, states[-1], wait)
        acts = [act for act in yard_acts(yard) if later is not None and yard_acted(yard, later, act) is not None]
        act = chance.choice(acts + acts + yard_acts(yard)[:1] + [()])
        run.append((wait, act))
        told = later if act == () or later is None else yard_acted(yard, later, act)
        if told is None:
            return run, states, price, (NoWait if later is None else NoAct, len(run) - 1)
        price += Fraction(*wait) * sum(room["price"] or 0 for room in yard_rooms(yard, states[-1]))
        price += sum(yard_doors(yard)[number][1]["price"] or 0 for number in act)
        states.append(told)
    return run, states, price, None


class Asked(unittest.TestCase):
    def test_what_is_handed_in_is_not_changed_and_what_is_told_is_the_askers(self):
        run = [((1, 2), (0,)), ((2, 1), (1,)), ((1, 3), ())]
        kept = copy.deepcopy(run)
        first = ran(LAMP, run)
        wanted = list(first)
        first.reverse()
        first.clear()
        for unused in range(2):
            self.assertEqual(ran(LAMP, run), wanted)
            self.assertEqual(spent(LAMP, run), pair_of(Fraction(1001, 2) + 3 + 2020 + Fraction(1001, 3)))
            self.assertEqual(lasts(run), (17, 6))
            self.assertEqual(run, kept)

    def test_two_nets_by_turns(self):
        other = read_net("watch x\nmachine m\nroom r price 9 hurry\ndoor r r price 2 do x = 0\n")
        for unused in range(2):
            self.assertEqual(refusal_of(ran, other, [((1, 1), ())]), (NoWait, 0))
            self.assertEqual(refusal_of(ran, LAMP, [((1, 1), ())]), None)
            self.assertEqual(spent(other, [(NOUGHT, (0,))]), (2, 1))
            self.assertEqual(spent(LAMP, [(NOUGHT, (0,))]), (3, 1))


class Interface(unittest.TestCase):
    def test_names_and_arguments(self):
        for name, arguments in {"ran": "(net, run)", "lasts": "(run)", "spent": "(net, run)"}.items():
            self.assertEqual(str(inspect.signature(getattr(own, name))), arguments, name)


if __name__ == "__main__":
    unittest.main()
