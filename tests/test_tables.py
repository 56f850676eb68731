import copy
import fractions
import inspect
import itertools
import random
import unittest

from watchyard import tables as own
from watchyard.fractions import fraction
from watchyard.tables import lies_in, narrowed, open_table

SIXTY = 10 ** 60 - 1
BEYOND_SHOWING = 10 ** 6000 + 1
# From the tightest on.
RISING = [
    (-SIXTY, True), (-SIXTY, False), (-2, True), (-2, False), (0, True), (0, False), (1, True), (1, False),
    (SIXTY, True), (SIXTY, False), (BEYOND_SHOWING, True), (BEYOND_SHOWING, False), None,
]


def some_table(k, seed):
    chance = random.Random(seed)
    return [[chance.choice(RISING) for unused in range(k + 1)] for unused in range(k + 1)]


def lies(table, point):
    """As the document says it, by Python's own fractions."""
    values = [fractions.Fraction(0)] + [fractions.Fraction(top, bottom) for top, bottom in point]
    for i, j in itertools.product(range(len(values)), repeat=2):
        if table[i][j] is not None:
            number, strict = table[i][j]
            if values[i] - values[j] > number or (strict and values[i] - values[j] == number):
                return False
    return True


class Open(unittest.TestCase):
    def test_of_none_one_and_two_things(self):
        self.assertEqual(open_table(0), [[None]])
        self.assertEqual(open_table(1), [[None, None], [None, None]])
        self.assertEqual(open_table(2), [[None, None, None], [None, None, None], [None, None, None]])

    def test_lists_and_lengths(self):
        for k in (0, 1, 2, 3, 7, 40):
            table = open_table(k)
            self.assertIs(type(table), list)
            self.assertEqual([type(row) for row in table], [list] * (k + 1))
            self.assertEqual(table, [[None] * (k + 1)] * (k + 1))

    def test_no_two_lists_are_one(self):
        for k in (1, 2, 40):
            table = open_table(k)
            self.assertEqual(len({id(row) for row in table}), k + 1)
            table[0][0] = (1, False)
            self.assertEqual(table[1:], [[None] * (k + 1)] * k)

    def test_what_was_told_is_the_askers(self):
        first = open_table(2)
        first[1][2] = (3, True)
        first.append("more")
        self.assertEqual(open_table(2), [[None] * 3] * 3)


class Narrowed(unittest.TestCase):
    def test_plain_ones(self):
        table = narrowed(open_table(1), 1, 0, (5, False))
        self.assertEqual(table, [[None, None], [(5, False), None]])
        self.assertEqual(narrowed(table, 1, 0, (5, True)), [[None, None], [(5, True), None]])
        self.assertEqual(narrowed(table, 1, 0, (6, True)), [[None, None], [(5, False), None]])
        self.assertEqual(narrowed(table, 0, 1, (-2, False)), [[None, (-2, False)], [(5, False), None]])
        self.assertEqual(narrowed(open_table(0), 0, 0, (0, True)), [[(0, True)]])

    def test_the_tighter_of_both_at_the_place(self):
        for (place, one), (other_place, other) in itertools.product(enumerate(RISING), repeat=2):
            told = narrowed([[one]], 0, 0, other)
            self.assertEqual(told, [[RISING[min(place, other_place)]]])

    def test_none_leaves_it_be(self):
        table = some_table(3, 1)
        for i, j in itertools.product(range(4), repeat=2):
            self.assertEqual(narrowed(table, i, j, None), table)

    def test_all_others_as_before(self):
        for k in (0, 1, 2, 5):
            table = [[(i * 10 + j, False) for j in range(k + 1)] for i in range(k + 1)]
            for i, j in itertools.product(range(k + 1), repeat=2):
                expected = copy.deepcopy(table)
                expected[i][j] = (-SIXTY, True)
                self.assertEqual(narrowed(table, i, j, (-SIXTY, True)), expected)

    def test_what_is_handed_in_stays(self):
        table = some_table(3, 2)
        before = copy.deepcopy(table)
        for i, j in itertools.product(range(4), repeat=2):
            told = narrowed(table, i, j, (-SIXTY - 1, True))
            self.assertEqual(table, before)
            for row in told:
                row[0] = "changed"
                row.append("more")
            told.append("more")
            self.assertEqual(table, before)

    def test_no_list_is_shared_even_where_nothing_is_narrowed(self):
        table = some_table(3, 3)
        told = narrowed(table, 1, 2, None)
        self.assertEqual(told, table)
        self.assertEqual(len({id(row) for row in table + told} | {id(table), id(told)}), 10)

    def test_what_is_handed_in_may_change_afterwards(self):
        table = open_table(1)
        told = narrowed(table, 0, 1, (0, False))
        table[0][1] = (-9, True)
        table[1].append("more")
        self.assertEqual(told, [[None, (0, False)], [None, None]])

    def test_lists_and_bounds_of_their_kinds(self):
        told = narrowed(open_table(2), 2, 1, (SIXTY, True))
        self.assertEqual([type(row) for row in told], [list] * 3)
        self.assertIs(type(told[2][1]), tuple)
        self.assertEqual([type(thing) for thing in told[2][1]], [int, bool])

    def test_asked_again_the_same_is_told(self):
        table = some_table(2, 4)
        self.assertEqual(narrowed(table, 1, 2, (0, False)), narrowed(table, 1, 2, (0, False)))

    def test_again_and_again(self):
        table = open_table(40)
        for i, j in itertools.product(range(41), repeat=2):
            if (i * 7 + j) % 10 == 0:
                table = narrowed(table, i, j, (SIXTY - i * 41 - j, i > j))
        for i, j in itertools.product(range(41), repeat=2):
            expected = (SIXTY - i * 41 - j, i > j) if (i * 7 + j) % 10 == 0 else None
            self.assertEqual(table[i][j], expected)


class LiesIn(unittest.TestCase):
    def test_of_no_things(self):
        for bound, expected in [(None, True), ((0, False), True), ((0, True), False), ((1, True), True),
                                ((-1, False), False), ((-1, True), False), ((SIXTY, False), True)]:
            self.assertIs(lies_in([[bound]], []), expected, bound)

    def test_all_lie_in_the_open_one(self):
        for k in (0, 1, 2, 40):
            self.assertIs(lies_in(open_table(k), [fraction(-SIXTY - place, 7 ** place) for place in range(k)]), True)

    def test_a_thing_less_thing_0(self):
        table = narrowed(open_table(2), 2, 0, (3, False))
        for value, expected in [((3, 1), True), ((5, 2), True), ((-9, 1), True), ((7, 2), False), ((4, 1), False),
                                ((3 * SIXTY + 1, SIXTY), False), ((3 * SIXTY - 1, SIXTY), True)]:
            self.assertIs(lies_in(table, [(99, 1), value]), expected, value)
        self.assertIs(lies_in(narrowed(table, 2, 0, (3, True)), [(99, 1), (3, 1)]), False)
        self.assertIs(lies_in(narrowed(table, 2, 0, (3, True)), [(99, 1), (3 * SIXTY - 1, SIXTY)]), True)

    def test_thing_0_less_a_thing(self):
        table = narrowed(open_table(2), 0, 1, (-3, False))
        for value, expected in [((3, 1), True), ((7, 2), True), ((9, 1), True), ((5, 2), False), ((-3, 1), False),
                                ((3 * SIXTY + 1, SIXTY), True), ((3 * SIXTY - 1, SIXTY), False)]:
            self.assertIs(lies_in(table, [value, (-99, 1)]), expected, value)
        self.assertIs(lies_in(narrowed(table, 0, 1, (-3, True)), [(3, 1), (-99, 1)]), False)
        self.assertIs(lies_in(narrowed(table, 0, 1, (-3, True)), [(3 * SIXTY + 1, SIXTY), (-99, 1)]), True)

    def test_a_thing_less_another(self):
        table = narrowed(open_table(2), 1, 2, (1, False))
        for one, other, expected in [((1, 2), (-1, 2), True), ((0, 1), (5, 1), True), ((2, 1), (1, 2), False),
                                     ((SIXTY, 1), (SIXTY - 1, 1), True), ((SIXTY, 1), (SIXTY - 2, 1), False)]:
            self.assertIs(lies_in(table, [one, other]), expected, (one, other))
        strict = narrowed(table, 1, 2, (1, True))
        self.assertIs(lies_in(strict, [(1, 2), (-1, 2)]), False)
        self.assertIs(lies_in(strict, [(1, 2), (-1, 3)]), True)

    def test_a_thing_less_itself(self):
        kept = [((0, False), True), ((0, True), False), ((1, True), True), ((-1, False), False)]
        for k in (0, 1, 2):
            for thing in range(k + 1):
                for bound, expected in kept:
                    table = narrowed(open_table(k), thing, thing, bound)
                    self.assertIs(lies_in(table, [(5, 3)] * k), expected, (thing, bound))

    def test_one_broken_bound_is_enough_at_every_place(self):
        point = [(5, 2), (-7, 3), (SIXTY, 4)]
        values = [fractions.Fraction(0)] + [fractions.Fraction(top, bottom) for top, bottom in point]
        for i, j in itertools.product(range(4), repeat=2):
            number = (values[i] - values[j]).__ceil__()
            kept = narrowed(open_table(3), i, j, (number, False))
            self.assertIs(lies_in(kept, point), True, (i, j))
            self.assertIs(lies_in(narrowed(kept, i, j, (number - 1, False)), point), False, (i, j))
            whole = values[i] - values[j] == number
            self.assertIs(lies_in(narrowed(kept, i, j, (number, True)), point), not whole, (i, j))

    def test_against_the_words_of_the_document(self):
        chance = random.Random(5)
        bounds = [None, None, (0, False), (0, True), (1, False), (1, True), (2, False), (-1, False), (3, True)]
        seen = {True: 0, False: 0}
        for unused in range(3000):
            k = chance.randrange(4)
            table = [[chance.choice(bounds) for unused in range(k + 1)] for unused in range(k + 1)]
            point = [fraction(chance.randrange(-8, 9), chance.choice([1, 2, 3])) for unused in range(k)]
            self.assertIs(lies_in(table, point), lies(table, point))
            seen[lies(table, point)] += 1
        self.assertGreater(min(seen.values()), 300)

    def test_forty_things_and_sixty_figures(self):
        point = [fraction(SIXTY - 3 ** place, 2 + place) for place in range(40)]
        values = [fractions.Fraction(0)] + [fractions.Fraction(top, bottom) for top, bottom in point]
        table = [[((one - other).__floor__() + 1, False) for other in values] for one in values]
        self.assertIs(lies_in(table, point), True)
        table[17][39] = (table[17][39][0] - 2, False)
        self.assertIs(lies_in(table, point), False)

    def test_what_is_handed_in_stays(self):
        table, point = some_table(2, 6), [(1, 2), (-3, 1)]
        before = copy.deepcopy((table, point))
        for unused in range(2):
            lies_in(table, point)
            self.assertEqual((table, point), before)


class Interface(unittest.TestCase):
    def test_names_and_arguments(self):
        arguments = {"open_table": "(k)", "narrowed": "(table, i, j, bound)", "lies_in": "(table, point)"}
        for name, expected in arguments.items():
            self.assertEqual(str(inspect.signature(getattr(own, name))), expected, name)


if __name__ == "__main__":
    unittest.main()
