"""What is promised over the whole program: each answer with what shows it, and the names as they stand."""

import copy
import importlib
import inspect
import random
import unittest

from making import ask_text, small_ask, small_yard, yard_text
from paying import with_prices

from watchyard.asks import mosts, read_ask
from watchyard.checks import is_book, is_counter, is_plan, is_price_book
from watchyard.errors import WatchError
from watchyard.force import forced
from watchyard.fractions import fraction, less, plus
from watchyard.near import run_near
from watchyard.plays import play_counter, play_plan
from watchyard.prices import priced
from watchyard.reading import read_net, shown
from watchyard.runs import ran, spent
from watchyard.spots import spot_of
from watchyard.states import begun
from watchyard.timing import timed
from watchyard.ways import way_to

INTERFACE = {
    "fractions": ["is_whole(thing)", "is_fraction(thing)", "fraction(top, bottom=1)", "plus(one, other)",
                  "minus(one, other)", "times(one, other)", "less(one, other)", "floor_of(one)"],
    "bounds": ["keeps(part, bound)", "tighter(one, other)", "bound_sum(one, other)"],
    "tables": ["open_table(k)", "narrowed(table, i, j, bound)", "lies_in(table, point)"],
    "closing": ["closed(table)", "together(one, other)", "within(one, other)"],
    "points": ["point_of(table)", "far_point(table, i, j, e)", "mixed(one, other, e)"],
    "reading": ["read_net(text)", "shown(net)"],
    "states": ["begun(net)", "waited(net, state, d)", "acts_at(net, state)", "acted(net, state, act)"],
    "runs": ["ran(net, run)", "lasts(run)", "spent(net, run)"],
    "timing": ["timed(net, acts)"],
    "asks": ["read_ask(net, text)", "mosts(net, asks)"],
    "cells": ["cell_of(most, times)", "next_cell(most, cell)", "standard(most, cell)", "put_back(cell, numbers)",
              "is_moment(most, cell)", "corners(cell)"],
    "spots": ["spot_of(most, state)", "state_in(most, spot)", "later(net, most, spot)", "may_wait(net, most, spot)",
              "acts_in(net, most, spot)", "led(net, most, spot, act)"],
    "ways": ["way_to(net, ask)"],
    "force": ["forced(net, ask, shun=None)"],
    "plays": ["play_plan(net, ask, shun, plan, replies)", "play_counter(net, ask, shun, counter, wishes)"],
    "prices": ["priced(net, ask)"],
    "near": ["run_near(net, ask, n)"],
    "checks": ["is_book(net, ask, book)", "is_plan(net, ask, shun, plan)", "is_counter(net, ask, shun, counter)",
               "is_price_book(net, ask, price, book)"],
    "beside": ["beside(one, other)"]}
CLASSES = {
    "errors": ["WatchError", "NoFraction", "NoPoint", "NoAsk", "NoNet(row)", "NoWait(at)", "NoAct(at)", "NoMove(at)"],
    "conds": ["Cond", "WatchCond(number, sign, against)", "BoxCond(number, sign, against)"],
    "nets": ["Room", "Door", "Net"], "asks": ["Ask"]}
METHODS = {"watches": "(self)", "machines": "(self)", "boxes": "(self)", "rooms": "(self, machine)",
           "doors": "(self)", "acts": "(self)", "is_weather": "(self, act)", "price_of": "(self, act)",
           "rate": "(self, rooms)", "hurries": "(self, rooms)"}


class Interface(unittest.TestCase):
    def test_functions(self):
        for name, functions in INTERFACE.items():
            module = importlib.import_module(f"watchyard.{name}")
            for each in functions:
                function = getattr(module, each.split("(")[0])
                self.assertEqual(f"{function.__name__}{inspect.signature(function)}", each)
                self.assertEqual(function.__module__, f"watchyard.{name}")

    def test_classes(self):
        for name, classes in CLASSES.items():
            module = importlib.import_module(f"watchyard.{name}")
            for each in classes:
                told, brace, arguments = each.partition("(")
                self.assertTrue(inspect.isclass(getattr(module, told)))
                if brace:
                    self.assertEqual(str(inspect.signature(getattr(module, told))), f"({arguments}")

    def test_methods_of_nets_conditions_and_asks(self):
        nets, conds, asks = [importlib.import_module(f"watchyard.{name}") for name in ("nets", "conds", "asks")]
        for name, arguments in METHODS.items():
            self.assertEqual(str(inspect.signature(getattr(nets.Net, name))), arguments)
        self.assertEqual(str(inspect.signature(asks.Ask.meets)), "(self, state)")
        for each in (conds.WatchCond, conds.BoxCond):
            self.assertTrue(issubclass(each, conds.Cond))
            self.assertEqual(str(inspect.signature(each.holds)), "(self, boxes, times)")

    def test_refusals(self):
        errors = importlib.import_module("watchyard.errors")
        self.assertEqual(WatchError.__bases__, (ValueError,))
        for name in CLASSES["errors"][1:]:
            self.assertEqual(getattr(errors, name.split("(")[0]).__bases__, (WatchError,))


class Whole(unittest.TestCase):
    """Each answer shows itself: no two of them contradict one another."""

    def some(self, chance):
        most = chance.choice([1, 2, 3])
        yard = with_prices(chance, small_yard(chance, most))
        net = read_net(yard_text(yard))
        return [net] + [read_ask(net, ask_text(small_ask(chance, yard, most))) for unused in range(2)]

    def all_told(self, net, ask, shun):
        return [way_to(net, ask), forced(net, ask), forced(net, ask, shun), priced(net, ask), run_near(net, ask, 4)]

    def test_answers(self):
        chance = random.Random(1)
        seen = {}
        for unused in range(200):
            net, ask, shun = self.some(chance)
            way, force, kept, price, near = self.all_told(net, ask, shun)
            kind = (way[0], force[0], kept[0], price[0], near is not None)
            seen[kind] = seen.get(kind, 0) + 1
            self.assertEqual((price[0] == "price", near is not None), (way[0] == "met",) * 2)
            # What we can force can be met; what we can force with a shun we can without it.
            self.assertTrue(force[0] == "counter" or way[0] == "met")
            self.assertTrue(kept[0] == "counter" or force[0] == "plan")
            self.assertMetOrNever(net, ask, way, price, near)
            self.assertForced(chance, net, ask, None, force)
            self.assertForced(chance, net, ask, shun, kept)
        self.assertEqual(len(seen), 4)

    def assertMetOrNever(self, net, ask, way, price, near):
        if way[0] == "never":
            self.assertTrue(is_book(net, ask, way[1]) and is_book(net, ask, price[1]))
            return
        self.assertTrue(is_price_book(net, ask, price[1], price[2]))
        for run in (way[1], near):
            self.assertTrue(ask.meets(ran(net, run)[-1]))
            self.assertFalse(less(spent(net, run), fraction(price[1])))
            # Its acts can be done at some times: these, or others.
            self.assertEqual(timed(net, [act for wait, act in run if act != ()])[0], "run")
        self.assertTrue(less(spent(net, near), plus(fraction(price[1]), (1, 4))))

    def assertForced(self, chance, net, ask, shun, told):
        if told[0] == "plan":
            self.assertTrue(is_plan(net, ask, shun, told[1]))
            replies = [chance.choice([None, (fraction(chance.randint(0, 4), 4), chance.randint(0, 3))])
                       for unused in range(20)]
            run = play_plan(net, ask, shun, told[1], replies)
            start = spot_of(mosts(net, [ask] + ([] if shun is None else [shun])), begun(net))
            self.assertLessEqual(len(run), {spot: rank for spot, rank, word in told[1]}[start])
            self.assertTrue(ask.meets(ran(net, run)[-1]))
        else:
            self.assertTrue(is_counter(net, ask, shun, told[1]))
            run, word = play_counter(net, ask, shun, told[1], [((0, 1), ())] * 5)
            states = ran(net, run)
            self.assertTrue(word == "lost" or not any(ask.meets(state) for state in states))
            self.assertEqual(word == "lost", shun is not None and any(shun.meets(state) for state in states))

    def test_by_turns(self):
        """What one asker does to what is told is nothing to the others, whatever else is asked meanwhile."""
        chance = random.Random(2)
        cases = [self.some(chance) for unused in range(12)]
        wanted = [copy.deepcopy(self.all_told(*case)) for case in cases]
        texts = [shown(case[0]) for case in cases]
        for unused in range(2):
            for number in chance.sample(range(12), 12):
                told = self.all_told(*cases[number])
                self.assertEqual(told, wanted[number])
                for each in told[:4]:
                    each[-1].reverse()
                    each[-1].clear()
        self.assertEqual([shown(case[0]) for case in cases], texts)


if __name__ == "__main__":
    unittest.main()
